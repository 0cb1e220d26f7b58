import Derived.Test.YtlliliddljkbfaaGreatC30
import Derived.Test.YtlliliddljkbfaaGreatC32
import Derived.Carry
namespace Go.Proofs.YtlliliddljkbfaaGreat
set_option maxHeartbeats 64000000
set_option maxRecDepth 100000
open Go.RowKit Sp
def K3 (w : World) (b : Nat) (x0 x1 x2 : Value) : Prop := w.heap[b]? = some (.cells #[x0, x1, x2] 77 (0, 0))
theorem K3.cs {w : World} {b : Nat} {x0 x1 x2 : Value} (h : K3 w b x0 x1 x2) : w.cell? ⟨b, 0, none⟩ = some x0 ∧ w.cell? ⟨b, 1, none⟩ = some x1 ∧ w.cell? ⟨b, 2, none⟩ = some x2 := by
  have h' : w.heap[b]? = _ := h
  refine ⟨?_, ?_, ?_⟩ <;> (unfold World.cell?; rw [h']; rfl)
theorem K3.lt {w : World} {b : Nat} {x0 x1 x2 : Value} (h : K3 w b x0 x1 x2) : b < w.heap.size := (Array.getElem?_eq_some_iff.1 h).1
theorem K3.new (w : World) (x0 x1 x2 : Value) : K3 (w.alloc (.cells #[x0, x1, x2] 77)) w.heap.size x0 x1 x2 := heap_alloc_new w _
theorem K3.below {w w' : World} {b : Nat} {x0 x1 x2 : Value} (h : K3 w b x0 x1 x2) (hb : Below w.heap.size w w') : K3 w' b x0 x1 x2 := by
  show _ = _; rw [hb.block _ h.lt]; exact h
theorem cxS_lt (p : Page) (hp : p.length ≤ 30) : ∀ (l : List Step) (s : Nat), s < 18446744073709551616 → cxS p s l < 18446744073709551616
  | [], _, h => h
  | (cb, all) :: r, s, _ => cxS_lt p hp r _ (cmS_lt p all _ (frS_lt p cb s hp))
def layF (p : Page) (r : Rule) (i : Nat) (g : ByteArray → Option Win) : ByteArray → Option Win :=
  match selF (depth r.head) r.head with
  | none => g
  | some ss => if r.at_.getD nob = nob then layE (ss.map (clm p)) (decls (r.body.getD [])) i g else g
def E3 (w : World) (b : Nat) (x0 x1 x2 : Value) : Prop := w.heap[b]? = some (.cells #[x0, x1, x2] 181 (0, 0))
theorem E3.cs {w : World} {b : Nat} {x0 x1 x2 : Value} (h : E3 w b x0 x1 x2) : w.cell? ⟨b, 0, none⟩ = some x0 ∧ w.cell? ⟨b, 1, none⟩ = some x1 ∧ w.cell? ⟨b, 2, none⟩ = some x2 := by
  have h' : w.heap[b]? = _ := h
  refine ⟨?_, ?_, ?_⟩ <;> (unfold World.cell?; rw [h']; rfl)
theorem E3.new (w : World) (x0 x1 x2 : Value) : E3 (w.alloc (.cells #[x0, x1, x2] 181)) w.heap.size x0 x1 x2 := heap_alloc_new w _
structure CasM (B : Nat) (w : World) (p : Page) (a : Option Addr) (cap : Nat) (wa : Option Addr) (wc : Nat) (bs : List Nat) : Prop where
  pg : PgM B w p a cap
  win : ∃ rb o, wa = some ⟨rb, o, none⟩ ∧ ∀ i (h : i < bs.length), w.cell? ⟨rb, o + i, none⟩ = some (.map (some bs[i]))
  len : bs.length = p.length
  cap : bs.length ≤ wc
  nd : bs.Nodup
  lo : ∀ b ∈ bs, B ≤ b
theorem cell_not_map {k : TypeId} {w : World} {b rb o : Nat} {v : Value} {m : Value → Option Value} (h : MapF k w b m) (hc : w.cell? ⟨rb, o, none⟩ = some v) : rb ≠ b := by
  rintro rfl
  obtain ⟨es, c, h1, _⟩ := h
  unfold World.cell? at hc
  rw [h1] at hc
  cases hc
theorem cell_lt {w : World} {rb o : Nat} {v : Value} (hc : w.cell? ⟨rb, o, none⟩ = some v) : rb < w.heap.size := by
  apply Classical.byContradiction
  intro h
  unfold World.cell? at hc
  rw [Array.getElem?_eq_none (show w.heap.size ≤ rb by omega)] at hc
  cases hc
theorem lay_c (B : Nat) (p : Page) (a : Option Addr) (cap : Nat) (wa : Option Addr) (wc : Nat) (bs : List Nat) (kb : Nat) (r : Rule) (ha : Option Addr) (hc : Nat) (ba : Option Addr) (bc : Nat) (bd : List Nd) (G : Nat → ByteArray → Option Win) (w : World)
    (h : CasM B w p a cap wa wc bs) (hG : AllW B w bs G) (hh : Sl (fun b => b < B) w (.slice ha r.head.length hc) r.head) (hb : Sl (fun b => b < B) w (.slice ba bd.length bc) bd) (hbd : r.body = some bd)
    (hok : ∀ ss, selF (depth r.head) r.head = some ss → okL ss) (hR : ReadOK (depth r.head)) :
    Calls Tryz.prog 62 #[.agg #[.slice a p.length cap, .slice wa bs.length wc, .map (some kb)], .agg #[.string (r.at_.getD nob), .slice ha r.head.length hc, .bool true, .slice ba bd.length bc]] w
      fun ex w' => ex = .returned (.tuple #[]) ∧ AllW B w' bs (fun i => layF p r i (G i)) ∧ TurnL bs w w' := by
  have hBw := h.pg.lt
  have hlen := h.pg.len
  obtain ⟨at_, Hat⟩ : ∃ x, Hid (r.at_.getD nob = x) := ⟨_, hid rfl⟩
  obtain ⟨hd, Hhd⟩ : ∃ x, Hid (r.head = x) := ⟨_, hid rfl⟩
  rw [Hat.out]
  rw [Hhd.out] at hh hok hR
  have HRD : Hid (ReadOK (depth hd)) := hR
  clear hR
  rw [Hhd.out]
  have HLF : Hid (∀ i, layF p r i (G i) = (match selF (depth hd) hd with | none => G i | some ss => if at_ = nob then layE (ss.map (clm p)) (decls bd) i (G i) else G i)) := by
    intro i
    unfold layF
    rw [Hat.out, Hhd.out, hbd]
    rfl
  have hb0 : Below w.heap.size w ((w.alloc (.cells #[.slice a p.length cap, .slice wa bs.length wc, .map (some kb)] 77)).alloc (.cells #[.string at_, .slice ha hd.length hc, .bool true, .slice ba bd.length bc] 130)) := ((Below.refl _ _).alloc (Nat.le_refl _) _).alloc (by simp) _
  have B0 := hid hb0
  have K0 : Hid (K3 ((w.alloc (.cells #[.slice a p.length cap, .slice wa bs.length wc, .map (some kb)] 77)).alloc (.cells #[.string at_, .slice ha hd.length hc, .bool true, .slice ba bd.length bc] 130)) w.heap.size (.slice a p.length cap) (.slice wa bs.length wc) (.map (some kb))) := (K3.new w _ _ _).below ((Below.refl _ _).alloc (Nat.le_refl _) _)
  have R0 : Hid (Q4 130 ((w.alloc (.cells #[.slice a p.length cap, .slice wa bs.length wc, .map (some kb)] 77)).alloc (.cells #[.string at_, .slice ha hd.length hc, .bool true, .slice ba bd.length bc] 130)) (w.heap.size + 1) (.string at_) (.slice ha hd.length hc) (.bool true) (.slice ba bd.length bc)) := by
    have := heap_alloc_new (w.alloc (.cells #[.slice a p.length cap, .slice wa bs.length wc, .map (some kb)] 77)) (.cells #[.string at_, .slice ha hd.length hc, .bool true, .slice ba bd.length bc] 130)
    show _ = _
    simpa using this
  have HH : Hid (Sl (fun b => b < B) ((w.alloc (.cells #[.slice a p.length cap, .slice wa bs.length wc, .map (some kb)] 77)).alloc (.cells #[.string at_, .slice ha hd.length hc, .bool true, .slice ba bd.length bc] 130)) (.slice ha hd.length hc) hd) := hh.below hb0 hBw
  have HBD : Hid (Sl (fun b => b < B) w (.slice ba bd.length bc) bd) := hb
  have HC : Hid (CasM B w p a cap wa wc bs) := h
  have HG : Hid (AllW B w bs G) := hG
  have HOK : Hid (∀ ss, selF (depth hd) hd = some ss → okL ss) := hok
  clear h hG hh hb hok hb0 hbd
  go_enter Tryz.func62, Tryz.ntmps62
  go_upto_region 1 with fail
  generalize (w.alloc (.cells #[.slice a p.length cap, .slice wa bs.length wc, .map (some kb)] 77)).alloc (.cells #[.string at_, .slice ha hd.length hc, .bool true, .slice ba bd.length bc] 130) = w0 at *
  obtain ⟨cb, Hcb⟩ : ∃ x, Hid (w.heap.size = x) := ⟨_, hid rfl⟩
  rw [Hcb.out] at K0 R0
  rw [Hcb.out]
  obtain ⟨k0, k1, k2⟩ := K0.out.cs
  obtain ⟨r0, r1, r2, r3⟩ := R0.out.cs
  have hs0 := B0.out.size
  go_wp2_with fail
  refine (HRD.out B hd _ _ (Nat.le_refl _) HH.out (by omega)).mono ?_
  rintro ex w1 ⟨hrd, hb1⟩
  have B1 : Hid (Below w.heap.size w w1) := B0.out.trans (hb1.mono hs0)
  have K1 : Hid (K3 w1 cb (.slice a p.length cap) (.slice wa bs.length wc) (.map (some kb))) := K0.out.below hb1
  have R1 : Hid (Q4 130 w1 (cb + 1) (.string at_) (.slice ha hd.length hc) (.bool true) (.slice ba bd.length bc)) := R0.out.below hb1
  have hs1 := B1.out.size
  clear hb1 k0 k1 k2 r0 r1 r2 r3 K0 R0 HH
  obtain ⟨k0, k1, k2⟩ := K1.out.cs
  obtain ⟨r0, r1, r2, r3⟩ := R1.out.cs
  unfold rdP at hrd
  cases hsel : selF (depth hd) hd with
  | none =>
    rw [hsel] at hrd
    have hrd' : ex = _ := hrd
    subst hrd'
    have HE : Hid (AllW B w1 bs (fun i => layF p r i (G i))) := by
      have : (fun i => layF p r i (G i)) = G := funext fun i => by rw [HLF.out i, hsel]
      rw [this]; exact HG.out.below B1.out hBw
    have HT : Hid (TurnL bs w w1) := TurnL.of_below B1.out
    clear hsel
    go_wp2_with fail
    refine bodyPost_ret (v := .tuple #[]) (by simp [results, Tryz.results62, go_sem]) rfl ?_
    exact ⟨rfl, HE.out, HT.out⟩
  | some ss =>
    rw [hsel] at hrd
    obtain ⟨sv, rfl, hsv⟩ := hrd
    have HSS : Hid (SG (PCx (PSim (depth hd))) 1 (Frm w0.heap.size w1) w1 sv ss) := hsv
    obtain ⟨sa, sc, rfl⟩ := hsv.form
    clear hsv
    by_cases hat : at_ = nob
    · have hate : (at_.toList == []) = true := by rw [bytes_lit]; exact decide_eq_true hat
      have HLF' : Hid (∀ i, layF p r i (G i) = layE (ss.map (clm p)) (decls bd) i (G i)) := fun i => by rw [HLF.out i, hsel]; exact if_pos hat
      have HOS : Hid (okL ss) := HOK.out ss hsel
      clear hsel HLF HOK hat
      have hF : Hid (Fair (PCx (PSim (depth hd)))) := One.fair (PStp.fair (PSim.fair (depth hd)))
      have P1 : Hid (PgM w1.heap.size w1 p a cap) := (HC.out.pg.below B1.out hBw).mono (by omega) (Nat.le_refl _)
      have SS1 : Hid (SG (PCx (PSim (depth hd))) 1 (fun b => b < w1.heap.size) w1 (.slice sa ss.length sc) ss) := HSS.out.keep hF.out (fun _ hg => hg.2) fun _ _ => rfl
      go_wp2_with fail
      refine (Claims_c (depth hd) w1.heap.size ss _ p a cap w1 SS1.out P1.out HOS.out).mono ?_
      rintro ex w2 ⟨⟨cv, rfl, hcv⟩, hb2⟩
      have B2 : Hid (Below w.heap.size w w2) := B1.out.trans (hb2.mono hs1)
      have K2 : Hid (K3 w2 cb (.slice a p.length cap) (.slice wa bs.length wc) (.map (some kb))) := K1.out.below hb2
      have R2 : Hid (Q4 130 w2 (cb + 1) (.string at_) (.slice ha hd.length hc) (.bool true) (.slice ba bd.length bc)) := R1.out.below hb2
      have hs2 := B2.out.size
      have hs12 := hb2.size
      have HCL : Hid (SG CCl 4 (Frm w1.heap.size w2) w2 cv (ss.map (clm p))) := hcv
      obtain ⟨ka, kc, rfl⟩ := hcv.form
      have HBD2 : Hid (Sl (fun b => b < B) w2 (.slice ba bd.length bc) bd) := HBD.out.below B2.out hBw
      clear hb2 hcv k0 k1 k2 r0 r1 r2 r3 K1 R1 SS1 P1 HSS
      obtain ⟨k0, k1, k2⟩ := K2.out.cs
      obtain ⟨r0, r1, r2, r3⟩ := R2.out.cs
      obtain ⟨cl, Hcl⟩ : ∃ cl, Hid (ss.map (clm p) = cl) := ⟨_, hid rfl⟩
      have HSC : Hid (∀ x ∈ cl, x.1 < 18446744073709551616) := by
        show ∀ x ∈ cl, _
        rw [← Hcl.out]
        intro x hx
        obtain ⟨cx, _, rfl⟩ := List.mem_map.1 hx
        exact cxS_lt p hlen.2 cx 0 (by decide)
      rw [Hcl.out] at HCL HLF'
      rw [Hcl.out]
      go_wp2_with fail
      refine (Declarations_d B bd _ w2 HBD2.out (by omega)).mono ?_
      rintro ex w3 ⟨dv, rfl, ⟨xs, hxs, hdv, hdo⟩, hb3⟩
      have B3 : Hid (Below w.heap.size w w3) := B2.out.trans (hb3.mono hs2)
      have K4 : Hid (K3 w3 cb (.slice a p.length cap) (.slice wa bs.length wc) (.map (some kb))) := K2.out.below hb3
      have hs3 := B3.out.size
      have hs23 := hb3.size
      have HXS : Hid (xs.map Prod.fst = decls bd) := hxs
      have HDV : Hid (SG CDv 3 (Frm w2.heap.size w3) w3 dv xs) := hdv
      have HDO : Hid (∀ x ∈ xs, DvOK B w3 x) := hdo
      have CL3 : Hid (SG CCl 4 (Frm w1.heap.size w2) w3 (.slice ka cl.length kc) cl) := HCL.out.keep CCl.fair (fun _ hg => hg) fun g hg => hb3.block g hg.2
      have hxl := hdv.len
      obtain ⟨da, dc, rfl⟩ := hdv.form
      have G3 : Hid (AllW B w3 bs G) := HG.out.below B3.out hBw
      clear hb3 hdv hdo hxs k0 k1 k2 r0 r1 r2 r3 K2 R2 HCL HBD2
      obtain ⟨k0, k1, k2⟩ := K4.out.cs
      obtain ⟨rb, ro, hwa, hwin⟩ := HC.out.win
      have hnd := HC.out.nd
      have hlo := HC.out.lo
      have hbl := HC.out.len
      have hcapw := HC.out.cap
      have hb30 : bs.length ≤ 30 := by omega
      have hbsl : ∀ b ∈ bs, b < w.heap.size := fun b hb => by
        obtain ⟨i, hi, rfl⟩ := List.getElem_of_mem hb
        exact (HG.out i hi).lt
      have hrb : rb < w.heap.size := cell_lt (hwin 0 (by omega))
      have hrn : rb ∉ bs := fun hm => by
        obtain ⟨i, hi, e⟩ := List.getElem_of_mem hm
        obtain ⟨m, hm2, _⟩ := HG.out i hi
        exact cell_not_map hm2 (hwin 0 (by omega)) e.symm
      have HWIN : Hid (∀ wx, TurnL bs w3 wx → ∀ i (h : i < bs.length), wx.cell? ⟨rb, ro + i, none⟩ = some (.map (some bs[i]))) := fun wx ht i hi => by
        rw [World.cell?_of_block (w := w) (a := ⟨rb, _, none⟩) ((ht.block rb (by omega) hrn).trans (B3.out.block rb hrb))]
        exact hwin i hi
      have HNB : Hid (∀ g, w1.heap.size ≤ g → g ∉ bs) := fun g hg hm => by have := hbsl g hm; omega
      have HND : Hid (bs.Nodup) := hnd
      have HLO : Hid (∀ b ∈ bs, B ≤ b) := hlo
      have hb1 : 1 ≤ bs.length := by omega
      clear hwin hnd hlo hbsl HC hbl
      subst hwa
      have hi30 : (bs.length : Int) ≤ 30 := by omega
      go_wp2_with fail
      go_loopg [37] bs.length (fun gg v37 wr => ∃ (k : Nat), v37 = .int .i64 (k : Int) ∧ k + gg = bs.length ∧ Aside (AllW B wr bs (fun i => if i < k then layE cl (decls bd) i (G i) else G i) ∧ TurnL bs w3 wr))
      case atStart => exact ⟨0, rfl, by omega, by simpa using G3.out, TurnL.refl _ _⟩
      case round =>
        obtain ⟨go, hgo⟩ : ∃ go, go = gk := ⟨_, rfl⟩
        obtain ⟨k, rfl, hk, hA⟩ := hrel
        have HR : Hid (AllW B wr bs (fun i => if i < k then layE cl (decls bd) i (G i) else G i) ∧ TurnL bs w3 wr) := hA.out
        clear hA
        have hsr := HR.out.2.size
        by_cases hlt : k < bs.length
        · have h1 : (k : Int) < (bs.length : Int) := by omega
          have d0 := HWIN.out wr HR.out.2 k hlt
          have C4' : Hid (SG CCl 4 (fun b => b < wr.heap.size) wr (.slice ka cl.length kc) cl) := CL3.out.keep CCl.fair (fun g hg => by have := hg.2; omega) fun g hg => HR.out.2.block g (by have := hg.2; omega) (HNB.out g hg.1)
          go_wp2_with fail
          refine (greatest_c wr.heap.size cl _ k wr C4'.out (Nat.le_refl _) (by omega) HSC.out).mono ?_
          obtain ⟨t, Ht⟩ : ∃ t, Hid ((grF k (0, 0, 0) false cl).1 = t) := ⟨_, hid rfl⟩
          obtain ⟨ok, Hok⟩ : ∃ t, Hid ((grF k (0, 0, 0) false cl).2 = t) := ⟨_, hid rfl⟩
          rw [Ht.out, Hok.out]
          rintro ex w4 ⟨rfl, hb4⟩
          unfold wtN wtV
          have A5 : Hid (W3n (w4.alloc (.cells #[.int .i64 (t.1 : Int), .int .i64 (t.2.1 : Int), .int .i64 (t.2.2 : Int)] 177)) w4.heap.size t) := W3.new _ _ _ _
          have X5 : Hid (Below wr.heap.size wr (w4.alloc (.cells #[.int .i64 (t.1 : Int), .int .i64 (t.2.1 : Int), .int .i64 (t.2.2 : Int)] 177))) := hb4.alloc hb4.size _
          have hs4 := hb4.size
          clear hb4 d0
          go_upto_region 9 with fail
          generalize w4.alloc (.cells #[.int .i64 (t.1 : Int), .int .i64 (t.2.1 : Int), .int .i64 (t.2.2 : Int)] 177) = w5 at *
          obtain ⟨tb, Htb⟩ : ∃ x, Hid (w4.heap.size = x) := ⟨_, hid rfl⟩
          rw [Htb.out] at A5 hs4
          rw [Htb.out]
          have T5 : Hid (TurnL bs w3 w5) := HR.out.2.trans (TurnL.of_below X5.out)
          have A5l := W3.lt A5.out
          have G5 : Hid (AllW B w5 bs (fun i => if i < k then layE cl (decls bd) i (G i) else G i)) := HR.out.1.below X5.out (by omega)
          have hs5 := X5.out.size
          cases ok
          · have HE : Hid (AllW B w5 bs (fun i => if i < k + 1 then layE cl (decls bd) i (G i) else G i)) := by
              have e : (fun i => if i < k + 1 then layE cl (decls bd) i (G i) else G i) = (fun i => if i < k then layE cl (decls bd) i (G i) else G i) := funext fun i => by
                by_cases e1 : i = k
                · subst e1
                  rw [if_pos (by omega), if_neg (by omega)]
                  unfold layE
                  rw [Hok.out]; rfl
                · by_cases e2 : i < k
                  · rw [if_pos e2, if_pos (by omega)]
                  · rw [if_neg e2, if_neg (by omega)]
              rw [e]; exact G5.out
            go_wp2_with fail
            go_roundg (go - 1)
            case measure => omega
            case rel => exact ⟨k + 1, by congr 1, by omega, HE.out, T5.out⟩
          · have hi6 : (xs.length : Int) ≤ 2097152 := by omega
            go_wp2_with fail
            go_loopg [52] xs.length (fun gg v52 wr => ∃ (j : Nat), v52 = .int .i64 (j : Int) ∧ j + gg = xs.length ∧ Aside (AllW B wr bs (fun i => if i = k then ((xs.map Prod.fst).take j).foldl (stW t) (G k) else if i < k then layE cl (decls bd) i (G i) else G i) ∧ TurnL bs w5 wr))
            case atStart =>
              refine ⟨0, rfl, by omega, ?_, TurnL.refl _ _⟩
              have e : (fun i => if i = k then ((xs.map Prod.fst).take 0).foldl (stW t) (G k) else if i < k then layE cl (decls bd) i (G i) else G i) = (fun i => if i < k then layE cl (decls bd) i (G i) else G i) := funext fun i => by
                by_cases e1 : i = k
                · subst e1; rw [if_pos rfl, if_neg (by omega)]; rfl
                · rw [if_neg e1]
              rw [e]; exact G5.out
            case round =>
              obtain ⟨gi, hgi⟩ : ∃ gi, gi = gk := ⟨_, rfl⟩
              obtain ⟨j, rfl, hj, hA⟩ := hrel
              have HJ : Hid (AllW B wr bs (fun i => if i = k then ((xs.map Prod.fst).take j).foldl (stW t) (G k) else if i < k then layE cl (decls bd) i (G i) else G i) ∧ TurnL bs w5 wr) := hA.out
              clear hA
              have hsj := HJ.out.2.size
              by_cases hlj : j < xs.length
              · have h2 : (j : Int) < (xs.length : Int) := by omega
                have HTJ : Hid (TurnL bs w3 wr) := T5.out.trans HJ.out.2
                have HBJ : Hid (Below B w3 wr) := HTJ.out.below HLO.out (by omega)
                obtain ⟨g6, o6, e6, hL6, hcap6⟩ := (HDV.out.keep (S' := fun _ => True) CDv.fair (fun _ _ => trivial) fun g hg => HTJ.out.block g hg.2 (HNB.out g (by have := hg.1; omega))).here (by rintro rfl; simp at hlj)
                obtain ⟨⟨d0, d1, d2⟩, _⟩ := hL6.dvq (i := j) hlj
                obtain ⟨⟨va, vc, hx2⟩, hxsl, hxp⟩ := HDO.out xs[j] (List.getElem_mem hlj)
                have HF : Hid (((xs.map Prod.fst).take (j + 1)).foldl (stW t) (G k) = stW t (((xs.map Prod.fst).take j).foldl (stW t) (G k)) xs[j].1) := by
                  have := foldl_take (stW t) (G k) (xs.map Prod.fst) (j := j) (by rw [List.length_map]; exact hlj)
                  rw [List.getElem_map] at this
                  exact this
                generalize xs[j] = x at *
                obtain ⟨d, dval⟩ := x
                have hx2' : dval = .slice va d.val.length vc := hx2
                subst hx2'
                have HSX : Hid (Sl (fun b => b < B) wr (.slice va d.val.length vc) d.val) := Sl.below hxsl HBJ.out (Nat.le_refl _)
                have hdp : d.prop.size ≤ 4000000 := hxp
                have d0' : wr.cell? ⟨g6, o6 + j * 3, none⟩ = some (.string d.prop) := d0
                have d1' : wr.cell? ⟨g6, o6 + j * 3 + 1, none⟩ = some (.slice va d.val.length vc) := d1
                have d2' : wr.cell? ⟨g6, o6 + j * 3 + 2, none⟩ = some (.bool d.imp) := d2
                have HF' : Hid (((xs.map Prod.fst).take (j + 1)).foldl (stW t) (G k) = entW (((xs.map Prod.fst).take j).foldl (stW t) (G k)) ⟨d.prop, d.val, d.imp, t⟩) := HF.out
                clear hL6 hx2 hxsl hxp HF d0 d1 d2
                have A6 : Hid (E3 (wr.alloc (.cells #[.string d.prop, .slice va d.val.length vc, .bool d.imp] 181)) wr.heap.size (.string d.prop) (.slice va d.val.length vc) (.bool d.imp)) := E3.new _ _ _ _
                have X6 : Hid (Below wr.heap.size wr (wr.alloc (.cells #[.string d.prop, .slice va d.val.length vc, .bool d.imp] 181))) := (Below.refl _ _).alloc (Nat.le_refl _) _
                subst e6
                go_upto_region 13 with fail
                generalize wr.alloc (.cells #[.string d.prop, .slice va d.val.length vc, .bool d.imp] 181) = w6 at *
                obtain ⟨db, Hdb⟩ : ∃ x, Hid (wr.heap.size = x) := ⟨_, hid rfl⟩
                rw [Hdb.out] at A6
                rw [Hdb.out]
                have hs6 := X6.out.size
                have T6 : Hid (TurnL bs w5 w6) := HJ.out.2.trans (TurnL.of_below X6.out)
                have A7 : Hid (W3n w6 tb t) := by
                  show W3 _ _ _ _ _
                  unfold W3
                  rw [T6.out.block tb A5l (HNB.out tb (by have := Htb.out; omega))]
                  exact A5.out
                have G6 : Hid (AllW B w6 bs (fun i => if i = k then ((xs.map Prod.fst).take j).foldl (stW t) (G k) else if i < k then layE cl (decls bd) i (G i) else G i)) := HJ.out.1.below X6.out (by omega)
                have S6 : Hid (Sl (fun b => b < B) w6 (.slice va d.val.length vc) d.val) := Sl.below HSX.out X6.out (by omega)
                have W6 : Hid (WinM B w6 bs[k] (((xs.map Prod.fst).take j).foldl (stW t) (G k))) := by
                  have h3 := G6.out k hlt
                  have h3' : WinM B w6 bs[k] (if k = k then ((xs.map Prod.fst).take j).foldl (stW t) (G k) else if k < k then layE cl (decls bd) k (G k) else G k) := h3
                  rwa [if_pos rfl] at h3'
                clear d0' d1' d2'
                obtain ⟨a0, a1, a2⟩ := A6.out.cs
                obtain ⟨t0, t1, t2⟩ := W3.cs A7.out
                go_wp2_with fail
                refine (enter_c B _ bs[k] ⟨d.prop, d.val, d.imp, t⟩ va vc w6 W6.out (HLO.out _ (List.getElem_mem hlt)) S6.out hdp).mono ?_
                rintro ex w7 ⟨rfl, hwin7, ht7⟩
                have T7 : Hid (TurnL bs w5 w7) := T6.out.trans (TurnL.of_turn ht7 (List.getElem_mem hlt))
                have HE : Hid (AllW B w7 bs (fun i => if i = k then ((xs.map Prod.fst).take (j + 1)).foldl (stW t) (G k) else if i < k then layE cl (decls bd) i (G i) else G i)) := by
                  have h3 := G6.out.upd hlt ht7 hwin7 HND.out HLO.out
                  have e : (fun i => if i = k then ((xs.map Prod.fst).take (j + 1)).foldl (stW t) (G k) else if i < k then layE cl (decls bd) i (G i) else G i) = (fun i => if i = k then entW (((xs.map Prod.fst).take j).foldl (stW t) (G k)) ⟨d.prop, d.val, d.imp, t⟩ else (if i = k then ((xs.map Prod.fst).take j).foldl (stW t) (G k) else if i < k then layE cl (decls bd) i (G i) else G i)) := funext fun i => by
                    by_cases e1 : i = k
                    · rw [if_pos e1, if_pos e1, HF'.out]
                    · rw [if_neg e1, if_neg e1, if_neg e1]
                  rw [e]; exact h3
                clear hwin7 ht7 a0 a1 a2 t0 t1 t2
                go_wp2_with fail
                go_roundg (gi - 1)
                case measure => omega
                case rel => exact ⟨j + 1, by congr 1, by omega, HE.out, T7.out⟩
              · have h2 : (xs.length : Int) ≤ (j : Int) := by omega
                have HE : Hid (AllW B wr bs (fun i => if i < k + 1 then layE cl (decls bd) i (G i) else G i)) := by
                  have e : (fun i => if i < k + 1 then layE cl (decls bd) i (G i) else G i) = (fun i => if i = k then ((xs.map Prod.fst).take j).foldl (stW t) (G k) else if i < k then layE cl (decls bd) i (G i) else G i) := funext fun i => by
                    by_cases e1 : i = k
                    · subst e1
                      rw [if_pos (by omega), if_pos rfl]
                      unfold layE
                      rw [if_pos Hok.out, Ht.out, List.take_of_length_le (by rw [List.length_map]; omega), HXS.out]
                    · rw [if_neg e1]
                      by_cases e2 : i < k
                      · rw [if_pos e2, if_pos (by omega)]
                      · rw [if_neg e2, if_neg (by omega)]
                  rw [e]; exact HJ.out.1
                have T8 : Hid (TurnL bs w3 wr) := T5.out.trans HJ.out.2
                go_wp2_with fail
                go_roundg (go - 1)
                case measure => omega
                case rel => exact ⟨k + 1, by congr 1, by omega, HE.out, T8.out⟩
        · have h1 : (bs.length : Int) ≤ (k : Int) := by omega
          have HE : Hid (AllW B wr bs (fun i => layF p r i (G i))) := by
            intro i hi
            have h3 := HR.out.1 i hi
            have h3' : WinM B wr bs[i] (if i < k then layE cl (decls bd) i (G i) else G i) := h3
            rw [if_pos (by omega)] at h3'
            show WinM B wr bs[i] (layF p r i (G i))
            rw [HLF'.out i]; exact h3'
          have HT : Hid (TurnL bs w wr) := (TurnL.of_below B3.out).trans HR.out.2
          go_wp2_with fail
          go_end0
          exact ⟨rfl, HE.out, HT.out⟩
    · have HE : Hid (AllW B w1 bs (fun i => layF p r i (G i))) := by
        have : (fun i => layF p r i (G i)) = G := funext fun i => by rw [HLF.out i, hsel]; exact if_neg hat
        rw [this]; exact HG.out.below B1.out hBw
      have HT : Hid (TurnL bs w w1) := TurnL.of_below B1.out
      have hne : (at_.toList == []) = false := by rw [bytes_lit]; exact decide_eq_false hat
      clear hsel
      go_wp2_with fail
      refine bodyPost_ret (v := .tuple #[]) (by simp [results, Tryz.results62, go_sem]) rfl ?_
      exact ⟨rfl, HE.out, HT.out⟩
theorem Size_c (n : Nat) (a : Option Addr) (cap : Nat) (w : World) :
    Calls Tryz.prog 61 #[.agg #[.slice a n cap]] w fun ex w' => ex = .returned (.int .i64 (n : Int)) ∧ Below w.heap.size w w' := by
  have B1 : Hid (Below w.heap.size w (w.alloc (.cells #[.slice a n cap] 66))) := (Below.refl _ _).alloc (Nat.le_refl _) _
  have V1 : Hid (VarB (w.alloc (.cells #[.slice a n cap] 66)) w.heap.size (.slice a n cap) 66) := VarB.new _ _ _
  have c0 := V1.out.c
  go_enter Tryz.func61, Tryz.ntmps61
  go_wp2_with fail
  go_ret
  exact ⟨rfl, B1.out⟩
theorem info_mp : ∃ i, Tryz.prog.info? 127 = some i ∧ i.zero = some (.map none) ∧ i.size = 1 ∧ i.bytes = 8 := info_parts (by kernel_rfl)
theorem own_cells {w : World} {base e s n : Nat} {v : Value} {xs : List Value} (h : w.ownsRow base e s v n xs) {k : TypeId} {b : Nat} {m : Value → Option Value} (hm : MapF k w b m) : v.ownBlock ≠ some b := by
  intro e1
  obtain ⟨es, c, h1, _⟩ := hm
  rcases h.2 with ⟨rfl, _⟩ | ⟨g, cap, cur, rfl, _, hg, _⟩
  · cases e1
  · cases e1
    rw [h1] at hg
    cases hg
def mpV (b : Nat) : Value := .map (some b)
structure OfI (w : World) (pv u : Value) (bs : List Nat) (wr : World) : Prop where
  row : wr.ownsRow (w.heap.size + 4) 127 1 u bs.length (bs.map mpV)
  cas : K3 wr (w.heap.size + 1 + 1 + 1) pv u (.map (some (w.heap.size + 1 + 1)))
  res : K3 wr (w.heap.size + 1) (.slice none 0 0) (.slice none 0 0) (.map none)
  known : MapF 133 wr (w.heap.size + 1 + 1) (fun _ => none)
  maps : ∀ b ∈ bs, MapF 9 wr b (fun _ => none)
  lo : ∀ b ∈ bs, w.heap.size + 4 ≤ b
  nd : bs.Nodup
  below : Below w.heap.size w wr
  size : w.heap.size + 4 ≤ wr.heap.size
theorem OfI.next {w : World} {pv u : Value} {bs : List Nat} {wr w' : World} (h : OfI w pv u bs wr) (hb : Below wr.heap.size wr w') : OfI w pv u bs w' :=
  ⟨own_keep h.row fun r hr => hb.block r (h.row.lt r hr).2, h.cas.below hb, h.res.below hb, h.known.keep (hb.block _ h.known.lt), fun b hm => (h.maps b hm).keep (hb.block _ (h.maps b hm).lt), h.lo, h.nd, h.below.trans (hb.mono h.below.size), Nat.le_trans h.size hb.size⟩
theorem OfI.more {w : World} {pv u u' : Value} {bs : List Nat} {wr w' : World} {m : Nat} (h : OfI w pv u bs wr) (hm : m = wr.heap.size)
    (hrow : w'.ownsRow (w.heap.size + 4) 127 1 u' (bs.length + 1) (bs.map mpV ++ [mpV m])) (hg : ((wr.alloc (.map #[] 0)).alloc (.cells #[mpV m] 127)).grownBy w' u.ownBlock) :
    OfI w pv u' (bs ++ [m]) (w'.setCell ⟨w.heap.size + 1 + 1 + 1, 1, none⟩ u') := by
  have hsz := h.size
  have hlo : ∀ rr, u.ownBlock = some rr → w.heap.size + 4 ≤ rr := fun rr hr => (h.row.lt rr hr).1
  have keep : ∀ b, b < wr.heap.size → some b ≠ u.ownBlock → w'.heap[b]? = wr.heap[b]? := fun b hb hn => by
    rw [hg.block b (by simp; omega) hn, Below.heap_alloc _ _ _ (by simp; omega), Below.heap_alloc _ _ _ hb]
  have keep2 : ∀ b, b < wr.heap.size → some b ≠ u.ownBlock → b ≠ w.heap.size + 1 + 1 + 1 → (w'.setCell ⟨w.heap.size + 1 + 1 + 1, 1, none⟩ u').heap[b]? = wr.heap[b]? := fun b hb hn hc => by
    rw [Below.heap_setCell _ _ _ _ hc]; exact keep b hb hn
  have lown : ∀ b, b < w.heap.size + 4 → some b ≠ u.ownBlock := fun b hb e => by have := hlo b e.symm; omega
  have hmn : (w'.setCell ⟨w.heap.size + 1 + 1 + 1, 1, none⟩ u').heap[m]? = some (.map #[] 0) := by
    have hu : some m ≠ u.ownBlock := fun e => by have := (h.row.lt m e.symm).2; omega
    rw [Below.heap_setCell _ _ _ _ (show m ≠ _ by show m ≠ w.heap.size + 1 + 1 + 1; omega), hg.block m (by simp; omega) hu, Below.heap_alloc _ _ _ (by simp; omega), hm]
    exact heap_alloc_new wr _
  have hcas : w'.heap[w.heap.size + 1 + 1 + 1]? = _ := (keep _ (by omega) (lown _ (by omega))).trans h.cas
  refine ⟨?_, ?_, ?_, ?_, ?_, ?_, ?_, ?_, ?_⟩
  · rw [List.length_append, List.map_append]
    refine own_keep hrow fun r hr => ?_
    have := (hrow.lt r hr).1
    exact Below.heap_setCell _ _ _ _ (by show r ≠ w.heap.size + 1 + 1 + 1; omega)
  · exact heap_set_same w' _ 1 _ _ _ u' hcas
  · exact (show _ = _ from (keep2 _ (by omega) (lown _ (by omega)) (by omega)).trans h.res)
  · exact h.known.keep (keep2 _ (by omega) (lown _ (by omega)) (by omega))
  · intro b hb
    rcases List.mem_append.1 hb with hb | hb
    · exact (h.maps b hb).keep (keep2 _ (h.maps b hb).lt (fun e => own_cells h.row (h.maps b hb) e.symm) (by have := h.lo b hb; omega))
    · rw [List.mem_singleton.1 hb]
      exact ⟨#[], 0, hmn, by simp, by simp, by simp, by simp⟩
  · intro b hb
    rcases List.mem_append.1 hb with hb | hb
    · exact h.lo b hb
    · rw [List.mem_singleton.1 hb]; omega
  · rw [List.nodup_append]
    refine ⟨h.nd, by simp, fun x hx y hy e => ?_⟩
    rw [List.mem_singleton.1 hy] at e
    have := (h.maps x hx).lt
    omega
  · exact (((h.below.alloc h.below.size _).alloc (by simp; have := h.below.size; omega) _).grown hg (by simp; omega) (fun rr hr => by have := hlo rr hr; omega)).setCell (p := ⟨w.heap.size + 1 + 1 + 1, 1, none⟩) (by show w.heap.size ≤ w.heap.size + 1 + 1 + 1; omega) _
  · have := hg.size
    simp [World.setCell] at this ⊢
    omega
end Go.Proofs.YtlliliddljkbfaaGreat
