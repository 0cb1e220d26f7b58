import Derived.Test.YtlliliddljkbfaaGreatC35
import Derived.Test.YtlliliddljkbfaaGreatC36
namespace Go.Proofs.YtlliliddljkbfaaGreat
set_option maxHeartbeats 64000000
set_option maxRecDepth 100000
open Go.RowKit Sp
section
def nUnset : ByteArray := ⟨#[117, 110, 115, 101, 116]⟩
def nInherit : ByteArray := ⟨#[105, 110, 104, 101, 114, 105, 116]⟩
def nInitial : ByteArray := ⟨#[105, 110, 105, 116, 105, 97, 108]⟩
def cmF (p : Page) (F : Nat → ByteArray → Option Win) (s : ByteArray) : Nat → Int → ByteArray
  | 0, _ => nob
  | n + 1, e => if e < 0 then nob else
    match F e.toNat s with
    | none => if hdB s = true then cmF p F s n (parentOf p e.toNat) else nob
    | some x => if wdL x.val nUnset = true then (if hdB s = true then cmF p F s n (parentOf p e.toNat) else nob) else if wdL x.val nInherit = true then cmF p F s n (parentOf p e.toNat) else if wdL x.val nInitial = true then nob else Sp.written x.val
def comW (p : Page) (F : Nat → ByteArray → Option Win) (e : Int) (s : ByteArray) : ByteArray := cmF p F s (e.toNat + 1) e
theorem cmF_neg (p : Page) (F : Nat → ByteArray → Option Win) (s : ByteArray) (n : Nat) {e : Int} (h : e < 0) : cmF p F s n e = nob := by
  cases n with
  | zero => rfl
  | succ n => unfold cmF; rw [if_pos h]
theorem cmF_fuel {p : Page} (F : Nat → ByteArray → Option Win) (s : ByteArray) (hp : ∀ i, i < p.length → parentOf p i < i) : ∀ (n m : Nat) (e : Int), e < p.length → e < n → e < m → cmF p F s n e = cmF p F s m e := by
  intro n
  induction n with
  | zero => intro m e _ h1 _; rw [cmF_neg _ _ _ _ (show e < 0 by omega), cmF_neg _ _ _ _ (show e < 0 by omega)]
  | succ n ih =>
    intro m e hl h1 h2
    by_cases h0 : e < 0
    · rw [cmF_neg _ _ _ _ h0, cmF_neg _ _ _ _ h0]
    · cases m with
      | zero => omega
      | succ m =>
        have hq := hp e.toNat (by omega)
        have := ih m (parentOf p e.toNat) (by omega) (by omega) (by omega)
        unfold cmF
        rw [this]
theorem comW_step {p : Page} (F : Nat → ByteArray → Option Win) (s : ByteArray) (hp : ∀ i, i < p.length → parentOf p i < i) {e : Nat} (he : e < p.length) :
    comW p F (e : Int) s = (match F e s with
      | none => if hdB s = true then comW p F (parentOf p e) s else nob
      | some x => if wdL x.val nUnset = true then (if hdB s = true then comW p F (parentOf p e) s else nob) else if wdL x.val nInherit = true then comW p F (parentOf p e) s else if wdL x.val nInitial = true then nob else Sp.written x.val) := by
  have hq := hp e he
  have e1 : comW p F (parentOf p e) s = cmF p F s e (parentOf p e) := by
    unfold comW
    by_cases h0 : parentOf p e < 0
    · rw [cmF_neg _ _ _ _ h0, cmF_neg _ _ _ _ h0]
    · exact cmF_fuel F s hp _ _ _ (by omega) (by omega) (by omega)
  rw [e1]
  show cmF p F s (((e : Int)).toNat + 1) (e : Int) = _
  conv => lhs; unfold cmF
  rw [if_neg (by omega), Int.toNat_natCast]
structure CasS (B : Nat) (w : World) (p : Page) (a : Option Addr) (cap : Nat) (wa : Option Addr) (wc : Nat) (bs : List Nat) (kb : Nat) (F : Nat → ByteArray → Option Win) : Prop where
  cas : CasM B w p a cap wa wc bs
  all : AllW B w bs F
  knw : KnwM w kb (fun e s => comW p F (e : Int) s)
  ne : kb ∉ bs
  lo : B ≤ kb
section
variable {B : Nat} {w w' : World} {p : Page} {a : Option Addr} {cap : Nat} {wa : Option Addr} {wc : Nat} {bs : List Nat} {kb : Nat} {F : Nat → ByteArray → Option Win}
theorem CasS.turn (h : CasS B w p a cap wa wc bs kb F) (ht : Turn kb w w') (hk : KnwM w' kb (fun e s => comW p F (e : Int) s)) : CasS B w' p a cap wa wc bs kb F := by
  have hb : Below B w w' := ht.below h.lo h.cas.pg.lt
  obtain ⟨rb, o, e, hc⟩ := h.cas.win
  have hlen := h.cas.pg.len
  have hbl := h.cas.len
  obtain ⟨m, hm, _⟩ := h.knw
  have hne : rb ≠ kb := cell_not_map hm (hc 0 (by omega))
  have hrl : rb < w.heap.size := cell_lt (hc 0 (by omega))
  refine ⟨⟨h.cas.pg.below hb (Nat.le_refl _), ⟨rb, o, e, fun i hi => ?_⟩, h.cas.len, h.cas.cap, h.cas.nd, h.cas.lo⟩, fun i hi => ?_, hk, h.ne, h.lo⟩
  · rw [World.cell?_of_block (w := w) (a := ⟨rb, _, none⟩) (ht.block rb hrl hne)]; exact hc i hi
  · exact (h.all i hi).keep hb (ht.block _ (h.all i hi).lt (fun e2 => h.ne (e2 ▸ List.getElem_mem hi)))
theorem CasS.below (h : CasS B w p a cap wa wc bs kb F) (hb : Below w.heap.size w w') : CasS B w' p a cap wa wc bs kb F :=
  h.turn (Turn.of_below hb) (h.knw.keep (hb.block _ h.knw.lt))
end
def ComOK (B : Nat) (p : Page) (a : Option Addr) (cap : Nat) (wa : Option Addr) (wc : Nat) (bs : List Nat) (kb : Nat) (F : Nat → ByteArray → Option Win) (e : Int) : Prop :=
  ∀ (w : World) (s : ByteArray), CasS B w p a cap wa wc bs kb F → s.size ≤ 4000000 → Calls Tryz.prog 37 #[.agg #[.slice a p.length cap, .slice wa bs.length wc, .map (some kb)], .int .i64 e, .string s] w
    fun ex w' => ex = .returned (.string (comW p F e s)) ∧ KnwM w' kb (fun e s => comW p F (e : Int) s) ∧ Turn kb w w'
theorem com_neg (B : Nat) (p : Page) (a : Option Addr) (cap : Nat) (wa : Option Addr) (wc : Nat) (bs : List Nat) (kb : Nat) (F : Nat → ByteArray → Option Win) {e : Int} (he : e < 0) : ComOK B p a cap wa wc bs kb F e := by
  intro w s h hs
  have B0 : Hid (Below w.heap.size w (w.alloc (.cells #[.slice a p.length cap, .slice wa bs.length wc, .map (some kb)] 77))) := (Below.refl _ _).alloc (Nat.le_refl _) _
  have HV : Hid (comW p F e s = nob) := cmF_neg _ _ _ _ he
  have HK : Hid (KnwM (w.alloc (.cells #[.slice a p.length cap, .slice wa bs.length wc, .map (some kb)] 77)) kb (fun e s => comW p F (e : Int) s)) := (h.below B0.out).knw
  have HT : Hid (Turn kb w (w.alloc (.cells #[.slice a p.length cap, .slice wa bs.length wc, .map (some kb)] 77))) := Turn.of_below B0.out
  clear h
  go_enter Tryz.func37, Tryz.ntmps37
  go_wp2_with fail
  go_ret
  exact ⟨by rw [HV.out]; rfl, HK.out, HT.out⟩
theorem handedDown_c (B : Nat) (p : Page) (a : Option Addr) (cap : Nat) (wa : Option Addr) (wc : Nat) (bs : List Nat) (kb : Nat) (F : Nat → ByteArray → Option Win) (e : Nat) (s : ByteArray) (w : World) (h : CasS B w p a cap wa wc bs kb F) (hs : s.size ≤ 4000000) (he : e < p.length) (hq : ComOK B p a cap wa wc bs kb F (parentOf p e)) :
    Calls Tryz.prog 99 #[.agg #[.slice a p.length cap, .slice wa bs.length wc, .map (some kb)], .int .i64 (e : Int), .string s] w
      fun ex w' => ex = .returned (.string (if hdB s = true then comW p F (parentOf p e) s else nob)) ∧ KnwM w' kb (fun e s => comW p F (e : Int) s) ∧ Turn kb w w' := by
  have B0 : Hid (Below w.heap.size w (w.alloc (.cells #[.slice a p.length cap, .slice wa bs.length wc, .map (some kb)] 77))) := (Below.refl _ _).alloc (Nat.le_refl _) _
  have K0 : Hid (K3 (w.alloc (.cells #[.slice a p.length cap, .slice wa bs.length wc, .map (some kb)] 77)) w.heap.size (.slice a p.length cap) (.slice wa bs.length wc) (.map (some kb))) := K3.new _ _ _ _
  have S0 : Hid (CasS B (w.alloc (.cells #[.slice a p.length cap, .slice wa bs.length wc, .map (some kb)] 77)) p a cap wa wc bs kb F) := h.below B0.out
  have hkl := h.knw.lt
  have HQ := hid hq
  clear h hq
  obtain ⟨z, Hz⟩ : ∃ z, Hid (hdB s = z) := ⟨_, hid rfl⟩
  rw [Hz.out]
  go_enter Tryz.func99, Tryz.ntmps99
  go_wp2_with fail
  generalize w.alloc (.cells #[.slice a p.length cap, .slice wa bs.length wc, .map (some kb)] 77) = w0 at *
  obtain ⟨cb, Hcb⟩ : ∃ x, Hid (w.heap.size = x) := ⟨_, hid rfl⟩
  rw [Hcb.out] at K0
  rw [Hcb.out]
  refine (isHandedDown_c s w0).mono ?_
  rw [Hz.out]
  rintro ex wq ⟨rfl, hwq⟩
  rw [hwq]
  clear hwq
  cases z
  · have HT : Hid (Turn kb w w0) := Turn.of_below B0.out
    go_wp2_with fail
    go_ret
    exact ⟨rfl, S0.out.knw, HT.out⟩
  · go_wp2_with fail
    refine wp_region_any (by kernel_rfl) ?_
    change wpAny _ _ _ _ _ _ _ (World.drew _)
    have HSS : Hid ((fun wx : World => K3 wx cb (.slice a p.length cap) (.slice wa bs.length wc) (.map (some kb))) w0.drew) := K0.out
    refine wpAny_of_held (S := (fun wx : World => K3 wx cb (.slice a p.length cap) (.slice wa bs.length wc) (.map (some kb)))) _ _ _ _ ?_
    refine tkH 0 rfl HSS.out (by intro w hSw; obtain ⟨k0, k1, k2⟩ := K3.cs hSw; go_simp; all_goals with_reducible rfl) ?_
    refine tkH 1 rfl HSS.out (by intro w hSw; obtain ⟨k0, k1, k2⟩ := K3.cs hSw; go_simp; all_goals with_reducible rfl) ?_
    refine tkH 2 rfl HSS.out (by intro w hSw; obtain ⟨k0, k1, k2⟩ := K3.cs hSw; go_simp; all_goals with_reducible rfl) ?_
    refine tkH 3 rfl HSS.out (by intro w hSw; obtain ⟨k0, k1, k2⟩ := K3.cs hSw; go_simp; all_goals with_reducible rfl) ?_
    refine tkH 5 rfl HSS.out (by intro w hSw; obtain ⟨k0, k1, k2⟩ := K3.cs hSw; go_simp; all_goals with_reducible rfl) ?_
    refine brH 4 fun K hK => ?_
    go_simp
    have B1 : Hid (Below w.heap.size w w0.drew) := B0.out.drew
    have S1 : Hid (CasS B w0.drew p a cap wa wc bs kb F) := S0.out.below ((Below.refl _ _).drew)
    refine (Parent_c B p a cap e w0.drew S1.out.cas.pg he).mono ?_
    rintro ex w2 ⟨rfl, hb2⟩
    have B2 : Hid (Below w.heap.size w w2) := B1.out.trans (hb2.mono B1.out.size)
    have S2 : Hid (CasS B w2 p a cap wa wc bs kb F) := S1.out.below hb2
    have HS2 : Hid ((fun wx : World => K3 wx cb (.slice a p.length cap) (.slice wa bs.length wc) (.map (some kb))) w2) := K3.below HSS.out hb2
    clear hb2
    refine hK.out _ _ HS2.out (fun _ => ?_)
    clear hK K
    refine brH 6 fun K hK => ?_
    go_simp
    refine (HQ.out w2 s S2.out hs).mono ?_
    rintro ex w3 ⟨rfl, hk3, ht3⟩
    have HK3 := hid hk3
    have HT : Hid (Turn kb w w3) := (Turn.of_below B2.out).trans ht3
    have HS3 : Hid ((fun wx : World => K3 wx cb (.slice a p.length cap) (.slice wa bs.length wc) (.map (some kb))) w3) := (show _ = _ from (ht3.block cb (K3.lt HS2.out) (by have := Hcb.out; omega)).trans HS2.out)
    clear hk3 ht3
    refine hK.out _ _ HS3.out (fun _ => ?_)
    clear hK K
    refine tkH 7 rfl HS3.out (by intro w hSw; skip; go_simp; all_goals with_reducible rfl) ?_
    refine wpAnyH_done (by kernel_rfl) ?_ _
    go_wp2_with fail
    go_ret
    exact ⟨rfl, HK3.out, HT.out⟩
end
open Go.ChangeMaps (setBlock)
structure FdI (B : Nat) (w : World) (p : Page) (a : Option Addr) (cap : Nat) (wa : Option Addr) (wc : Nat) (bs : List Nat) (kb : Nat) (F : Nat → ByteArray → Option Win) (x : Win) (va : Option Addr) (vc nb : Nat) (wr : World) : Prop where
  k : K3 wr w.heap.size (.slice a p.length cap) (.slice wa bs.length wc) (.map (some kb))
  n : Wn wr nb x (.slice va x.val.length vc)
  s : CasS B wr p a cap wa wc bs kb F
  v : Sl (fun g => g < B) wr (.slice va x.val.length vc) x.val
  b : Below w.heap.size w wr
theorem FdI.next {B : Nat} {w : World} {p : Page} {a : Option Addr} {cap : Nat} {wa : Option Addr} {wc : Nat} {bs : List Nat} {kb : Nat} {F : Nat → ByteArray → Option Win} {x : Win} {va : Option Addr} {vc nb : Nat} {wr w' : World} (h : FdI B w p a cap wa wc bs kb F x va vc nb wr) (hb : Below wr.heap.size wr w') : FdI B w p a cap wa wc bs kb F x va vc nb w' :=
  ⟨h.k.below hb, h.n.below hb, h.s.below hb, Sl.below h.v hb h.s.cas.pg.lt, h.b.trans (hb.mono h.b.size)⟩
theorem FdI.drew {B : Nat} {w : World} {p : Page} {a : Option Addr} {cap : Nat} {wa : Option Addr} {wc : Nat} {bs : List Nat} {kb : Nat} {F : Nat → ByteArray → Option Win} {x : Win} {va : Option Addr} {vc nb : Nat} {wr : World} (h : FdI B w p a cap wa wc bs kb F x va vc nb wr) : FdI B w p a cap wa wc bs kb F x va vc nb wr.drew := h.next ((Below.refl _ _).drew)
theorem find_c (B : Nat) (p : Page) (a : Option Addr) (cap : Nat) (wa : Option Addr) (wc : Nat) (bs : List Nat) (kb : Nat) (F : Nat → ByteArray → Option Win) (e : Nat) (s : ByteArray) (w : World) (h : CasS B w p a cap wa wc bs kb F) (hs : s.size ≤ 4000000) (he : e < p.length) (hq : ComOK B p a cap wa wc bs kb F (parentOf p e))
    (hF : ∀ x, F e s = some x → plV x.val ∧ wzL x.val ≤ 549755813888) (hp : ∀ i, i < p.length → parentOf p i < i) :
    Calls Tryz.prog 63 #[.agg #[.slice a p.length cap, .slice wa bs.length wc, .map (some kb)], .int .i64 (e : Int), .string s] w
      fun ex w' => ex = .returned (.string (comW p F (e : Int) s)) ∧ KnwM w' kb (fun e s => comW p F (e : Int) s) ∧ Turn kb w w' := by
  have B0 : Hid (Below w.heap.size w (w.alloc (.cells #[.slice a p.length cap, .slice wa bs.length wc, .map (some kb)] 77))) := (Below.refl _ _).alloc (Nat.le_refl _) _
  have K0 : Hid (K3 (w.alloc (.cells #[.slice a p.length cap, .slice wa bs.length wc, .map (some kb)] 77)) w.heap.size (.slice a p.length cap) (.slice wa bs.length wc) (.map (some kb))) := K3.new _ _ _ _
  have S0 : Hid (CasS B (w.alloc (.cells #[.slice a p.length cap, .slice wa bs.length wc, .map (some kb)] 77)) p a cap wa wc bs kb F) := h.below B0.out
  have hkl := h.knw.lt
  have hlen := h.cas.pg.len
  have hbl := h.cas.len
  have hcw := h.cas.cap
  have HQ := hid hq
  have HFx := hid hF
  have HCS := hid (comW_step F s hp he)
  clear h hq hF hp
  have heb : e < bs.length := by omega
  have h1 : (e : Int) < (bs.length : Int) := by omega
  have hb30 : bs.length ≤ 30 := by omega
  clear hbl
  go_enter Tryz.func63, Tryz.ntmps63
  go_upto_region 1 with fail
  generalize w.alloc (.cells #[.slice a p.length cap, .slice wa bs.length wc, .map (some kb)] 77) = w0 at *
  obtain ⟨k0, k1, k2⟩ := K0.out.cs
  obtain ⟨rb, ro, rfl, hcl⟩ := S0.out.cas.win
  have c0 := hcl e heb
  have hsz := B0.out.size
  obtain ⟨m, hm, hf⟩ := S0.out.all e heb
  have hlk := hm.look keyed_str Tryz.underlying127 (zero_win w0) (key_str hs)
  have hfx := hf s
  cases hfp : F e s with
  | none =>
    rw [hfp] at hfx HCS
    have hfx' : m (.string s) = none := hfx
    rw [hfx'] at hlk
    have hlk' : (Instr.lookup 127 (.map (some bs[e])) (.string s) true).run Tryz.prog w0 = .ok (.tuple #[.agg #[.string ⟨#[]⟩, .slice none 0 0, .bool false, .int .i64 0, .int .i64 0, .int .i64 0], .bool false]) w0 := hlk
    have HCS' : Hid (comW p F (e : Int) s = if hdB s = true then comW p F (parentOf p e) s else nob) := HCS.out
    clear hf hfx hfx' hm hcl hlk HCS
    have B1 : Hid (Below w0.heap.size w0 (w0.alloc (.cells #[.string ⟨#[]⟩, .slice none 0 0, .bool false, .int .i64 0, .int .i64 0, .int .i64 0] 184))) := (Below.refl _ _).alloc (Nat.le_refl _) _
    go_upto_region 2 with fail
    generalize w0.alloc (.cells #[.string ⟨#[]⟩, .slice none 0 0, .bool false, .int .i64 0, .int .i64 0, .int .i64 0] 184) = w1 at *
    have K1 : Hid (K3 w1 w.heap.size (.slice a p.length cap) (.slice (some ⟨rb, ro, none⟩) bs.length wc) (.map (some kb))) := K0.out.below B1.out
    have S1 := hid (S0.out.below B1.out)
    have B2 : Hid (Below w.heap.size w w1) := B0.out.trans (B1.out.mono hsz)
    clear k0 k1 k2 c0 hlk'
    obtain ⟨k0, k1, k2⟩ := K1.out.cs
    go_wp2_with fail
    refine (handedDown_c B p a cap _ wc bs kb F e s w1 S1.out hs he HQ.out).mono ?_
    obtain ⟨t, Ht⟩ : ∃ t, Hid ((if hdB s = true then comW p F (parentOf p e) s else nob) = t) := ⟨_, hid rfl⟩
    rw [Ht.out]
    rw [Ht.out] at HCS'
    rintro ex w2 ⟨rfl, hk2, ht2⟩
    have HK2 := hid hk2
    have HT : Hid (Turn kb w w2) := (Turn.of_below B2.out).trans ht2
    clear hk2 ht2
    go_wp2_with fail
    go_ret
    exact ⟨by rw [HCS'.out]; rfl, HK2.out, HT.out⟩
  | some x =>
    rw [hfp] at hfx HCS
    obtain ⟨epr, va, vc, hfx', hxs⟩ := hfx
    rw [hfx'] at hlk
    unfold wnV at hlk
    simp only [Option.getD_some, Option.isSome_some] at hlk
    obtain ⟨hpl, hwz⟩ := HFx.out x hfp
    have HPL := hid hpl
    have HWZ := hid hwz
    have HXS := hid hxs
    clear hf hfx' hm hcl epr hpl hwz hxs
    have B1 : Hid (Below w0.heap.size w0 (w0.alloc (.cells #[.string x.pr, .slice va x.val.length vc, .bool x.imp, .int .i64 (x.wt.1 : Int), .int .i64 (x.wt.2.1 : Int), .int .i64 (x.wt.2.2 : Int)] 184))) := (Below.refl _ _).alloc (Nat.le_refl _) _
    have Y1 : Hid (Wn (w0.alloc (.cells #[.string x.pr, .slice va x.val.length vc, .bool x.imp, .int .i64 (x.wt.1 : Int), .int .i64 (x.wt.2.1 : Int), .int .i64 (x.wt.2.2 : Int)] 184)) w0.heap.size x (.slice va x.val.length vc)) := Wn.new _ _ _
    go_upto_region 2 with fail
    generalize w0.alloc (.cells #[.string x.pr, .slice va x.val.length vc, .bool x.imp, .int .i64 (x.wt.1 : Int), .int .i64 (x.wt.2.1 : Int), .int .i64 (x.wt.2.2 : Int)] 184) = w1 at *
    obtain ⟨nb, Hnb⟩ : ∃ q, Hid (w0.heap.size = q) := ⟨_, hid rfl⟩
    rw [Hnb.out] at Y1
    rw [Hnb.out]
    have I1 : Hid (FdI B w p a cap (some ⟨rb, ro, none⟩) wc bs kb F x va vc nb w1) := ⟨K0.out.below B1.out, Y1.out, S0.out.below B1.out, Sl.below HXS.out B1.out S0.out.cas.pg.lt, B0.out.trans (B1.out.mono hsz)⟩
    clear k0 k1 k2 c0 hlk K0 Y1 S0 HXS B1
    obtain ⟨k0, k1, k2⟩ := I1.out.k.cs
    obtain ⟨n0, n1, n2, n3, n4, n5⟩ := I1.out.n.cs
    go_wp2_with fail
    refine (isWord_c B x.val _ nUnset w1 I1.out.v).mono ?_
    obtain ⟨b1, Hb1⟩ : ∃ b, Hid (wdL x.val nUnset = b) := ⟨_, hid rfl⟩
    rw [Hb1.out]
    rw [Hb1.out] at HCS
    rintro ex w2 ⟨rfl, hb2⟩
    have I2 := hid (I1.out.next hb2)
    clear hb2 k0 k1 k2 n0 n1 n2 n3 n4 n5 I1
    obtain ⟨k0, k1, k2⟩ := I2.out.k.cs
    obtain ⟨n0, n1, n2, n3, n4, n5⟩ := I2.out.n.cs
    cases b1
    · have HCS1 : Hid (comW p F (e : Int) s = if wdL x.val nInherit = true then comW p F (parentOf p e) s else if wdL x.val nInitial = true then nob else Sp.written x.val) := by
        show _ = _
        rw [HCS.out]; rfl
      clear HCS
      have hBw := I2.out.s.cas.pg.lt
      go_wp2_with fail
      refine (hasF_c 98 x.val _ B w2 I2.out.v hBw HPL.out (fun _ _ => rfl) (fun n hn ka kl kc w => isBad_c n.t ka kl kc w (HPL.out n hn).2.1 (HPL.out n hn).2.2.1)).mono ?_
      rintro ex w3 ⟨rfl, hb3⟩
      have I3 := hid (I2.out.next hb3)
      clear hb3 k0 k1 k2 n0 n1 n2 n3 n4 n5 I2 hBw
      obtain ⟨k0, k1, k2⟩ := I3.out.k.cs
      obtain ⟨n0, n1, n2, n3, n4, n5⟩ := I3.out.n.cs
      go_wp2_with fail
      refine (isWord_c B x.val _ nInherit w3 I3.out.v).mono ?_
      obtain ⟨b2, Hb2⟩ : ∃ b, Hid (wdL x.val nInherit = b) := ⟨_, hid rfl⟩
      rw [Hb2.out]
      rw [Hb2.out] at HCS1
      rintro ex w4 ⟨rfl, hb4⟩
      have I4 := hid (I3.out.next hb4)
      clear hb4 k0 k1 k2 n0 n1 n2 n3 n4 n5 I3
      obtain ⟨k0, k1, k2⟩ := I4.out.k.cs
      obtain ⟨n0, n1, n2, n3, n4, n5⟩ := I4.out.n.cs
      cases b2
      · have HCS2 : Hid (comW p F (e : Int) s = if wdL x.val nInitial = true then nob else Sp.written x.val) := HCS1.out
        clear HCS1
        go_wp2_with fail
        refine (isWord_c B x.val _ nInitial w4 I4.out.v).mono ?_
        obtain ⟨b3, Hb3⟩ : ∃ b, Hid (wdL x.val nInitial = b) := ⟨_, hid rfl⟩
        rw [Hb3.out]
        rw [Hb3.out] at HCS2
        rintro ex w5 ⟨rfl, hb5⟩
        have I5 := hid (I4.out.next hb5)
        clear hb5 k0 k1 k2 n0 n1 n2 n3 n4 n5 I4
        obtain ⟨k0, k1, k2⟩ := I5.out.k.cs
        obtain ⟨n0, n1, n2, n3, n4, n5⟩ := I5.out.n.cs
        cases b3
        · have HCS3 : Hid (comW p F (e : Int) s = Sp.written x.val) := HCS2.out
          clear HCS2
          have hBw := I5.out.s.cas.pg.lt
          go_wp2_with fail
          refine (hasF_c 101 x.val _ B w5 I5.out.v hBw HPL.out (fun _ _ => rfl) (fun n hn ka kl kc w => isVar_c n.t ka kl kc w (HPL.out n hn).2.2.2)).mono ?_
          rintro ex w6 ⟨rfl, hb6⟩
          have I6 := hid (I5.out.next hb6)
          clear hb6 k0 k1 k2 n0 n1 n2 n3 n4 n5 I5 hBw
          obtain ⟨k0, k1, k2⟩ := I6.out.k.cs
          obtain ⟨n0, n1, n2, n3, n4, n5⟩ := I6.out.n.cs
          go_wp2_with fail
          refine (Values_c x.val B _ w6 I6.out.v I6.out.s.cas.pg.lt HWZ.out).mono ?_
          rintro ex w7 ⟨rfl, hb7⟩
          have I7 := hid (I6.out.next hb7)
          clear hb7 k0 k1 k2 n0 n1 n2 n3 n4 n5 I6
          have HT : Hid (Turn kb w w7) := Turn.of_below I7.out.b
          go_wp2_with fail
          go_ret
          exact ⟨by rw [HCS3.out]; rfl, I7.out.s.knw, HT.out⟩
        · have HCS3 : Hid (comW p F (e : Int) s = nob) := HCS2.out
          have HT : Hid (Turn kb w w5) := Turn.of_below I5.out.b
          go_wp2_with fail
          go_ret
          exact ⟨by rw [HCS3.out]; rfl, I5.out.s.knw, HT.out⟩
      · have HCS2 : Hid (comW p F (e : Int) s = comW p F (parentOf p e) s) := HCS1.out
        clear HCS1 k0 k1 k2 n0 n1 n2 n3 n4 n5
        go_wp2_with fail
        refine wp_region_any (by kernel_rfl) ?_
        change wpAny _ _ _ _ _ _ _ (World.drew _)
        have J4 := hid (I4.out.drew)
        have HSS : Hid ((fun wx : World => K3 wx w.heap.size (.slice a p.length cap) (.slice (some ⟨rb, ro, none⟩) bs.length wc) (.map (some kb))) w4.drew) := J4.out.k
        refine wpAny_of_held (S := (fun wx : World => K3 wx w.heap.size (.slice a p.length cap) (.slice (some ⟨rb, ro, none⟩) bs.length wc) (.map (some kb)))) _ _ _ _ ?_
        refine tkI 0 rfl HSS.out (by intro w hSw; obtain ⟨k0, k1, k2⟩ := K3.cs hSw; go_simp; all_goals with_reducible rfl) ?_
        refine tkI 1 rfl HSS.out (by intro w hSw; obtain ⟨k0, k1, k2⟩ := K3.cs hSw; go_simp; all_goals with_reducible rfl) ?_
        refine tkI 2 rfl HSS.out (by intro w hSw; obtain ⟨k0, k1, k2⟩ := K3.cs hSw; go_simp; all_goals with_reducible rfl) ?_
        refine tkI 3 rfl HSS.out (by intro w hSw; obtain ⟨k0, k1, k2⟩ := K3.cs hSw; go_simp; all_goals with_reducible rfl) ?_
        refine tkI 5 rfl HSS.out (by intro w hSw; obtain ⟨k0, k1, k2⟩ := K3.cs hSw; go_simp; all_goals with_reducible rfl) ?_
        refine brH 4 fun K hK => ?_
        go_simp
        refine (Parent_c B p a cap e w4.drew J4.out.s.cas.pg he).mono ?_
        rintro ex w5 ⟨rfl, hb5⟩
        have I5 := hid (J4.out.next hb5)
        clear hb5
        refine hK.out _ _ I5.out.k (fun _ => ?_)
        clear hK K
        refine brH 6 fun K hK => ?_
        go_simp
        refine (HQ.out w5 s I5.out.s hs).mono ?_
        rintro ex w6 ⟨rfl, hk6, ht6⟩
        have HK6 := hid hk6
        have HT : Hid (Turn kb w w6) := (Turn.of_below I5.out.b).trans ht6
        have HS6 : Hid ((fun wx : World => K3 wx w.heap.size (.slice a p.length cap) (.slice (some ⟨rb, ro, none⟩) bs.length wc) (.map (some kb))) w6) := (show _ = _ from (ht6.block w.heap.size (K3.lt I5.out.k) (by omega)).trans I5.out.k)
        clear hk6 ht6
        refine hK.out _ _ HS6.out (fun _ => ?_)
        clear hK K
        refine tkI 7 rfl HS6.out (by intro w hSw; skip; go_simp; all_goals with_reducible rfl) ?_
        refine wpAnyH_done (by kernel_rfl) ?_ _
        go_wp2_with fail
        go_ret
        exact ⟨by rw [HCS2.out]; rfl, HK6.out, HT.out⟩
    · have HCS1 : Hid (comW p F (e : Int) s = if hdB s = true then comW p F (parentOf p e) s else nob) := by
        show _ = _
        rw [HCS.out]; rfl
      clear HCS
      go_wp2_with fail
      refine (handedDown_c B p a cap _ wc bs kb F e s w2 I2.out.s hs he HQ.out).mono ?_
      obtain ⟨t, Ht⟩ : ∃ t, Hid ((if hdB s = true then comW p F (parentOf p e) s else nob) = t) := ⟨_, hid rfl⟩
      rw [Ht.out]
      rw [Ht.out] at HCS1
      rintro ex w3 ⟨rfl, hk3, ht3⟩
      have HK3 := hid hk3
      have HT : Hid (Turn kb w w3) := (Turn.of_below I2.out.b).trans ht3
      clear hk3 ht3
      go_wp2_with fail
      go_ret
      exact ⟨by rw [HCS1.out]; rfl, HK3.out, HT.out⟩
open Go.ChangeMaps (setBlock)
def Qb (w : World) (b : Nat) (x0 x1 : Value) : Prop := w.heap[b]? = some (.cells #[x0, x1] 133 (0, 0))
theorem Qb.cs {w : World} {b : Nat} {x0 x1 : Value} (h : Qb w b x0 x1) : w.cell? ⟨b, 0, none⟩ = some x0 ∧ w.cell? ⟨b, 1, none⟩ = some x1 := by
  have h' : w.heap[b]? = _ := h
  refine ⟨?_, ?_⟩ <;> (unfold World.cell?; rw [h']; rfl)
theorem Qb.lt {w : World} {b : Nat} {x0 x1 : Value} (h : Qb w b x0 x1) : b < w.heap.size := (Array.getElem?_eq_some_iff.1 h).1
theorem Qb.new (w : World) (x0 x1 : Value) : Qb (w.alloc (.cells #[x0, x1] 133)) w.heap.size x0 x1 := heap_alloc_new w _
theorem Qb.below {w w' : World} {b : Nat} {x0 x1 : Value} (h : Qb w b x0 x1) (hb : Below w.heap.size w w') : Qb w' b x0 x1 := by
  show _ = _; rw [hb.block _ h.lt]; exact h
theorem turn_set {mb : Nat} {w w2 : World} {o : Obj} (h : Turn mb w w2) : Turn mb w (setBlock w2 mb o) :=
  ⟨h.os, h.tape, h.output, by show _ ≤ (w2.heap.setIfInBounds mb o).size; simpa using h.size, fun g hg hne => by
    show (w2.heap.setIfInBounds mb o)[g]? = _
    rw [Array.getElem?_setIfInBounds_ne (fun e => hne e.symm)]; exact h.block g hg hne⟩
theorem com_step (B : Nat) (p : Page) (a : Option Addr) (cap : Nat) (wa : Option Addr) (wc : Nat) (bs : List Nat) (kb : Nat) (F : Nat → ByteArray → Option Win) (e : Nat) (he : e < p.length) (hq : ComOK B p a cap wa wc bs kb F (parentOf p e))
    (hF : ∀ s x, F e s = some x → plV x.val ∧ wzL x.val ≤ 549755813888) (hp : ∀ i, i < p.length → parentOf p i < i) : ComOK B p a cap wa wc bs kb F (e : Int) := by
  intro w s h hs
  have B0 : Hid (Below w.heap.size w ((w.alloc (.cells #[.slice a p.length cap, .slice wa bs.length wc, .map (some kb)] 77)).alloc (.cells #[.int .i64 (e : Int), .string s] 133))) := ((Below.refl _ _).alloc (Nat.le_refl _) _).alloc (by simp) _
  have K0 : Hid (K3 ((w.alloc (.cells #[.slice a p.length cap, .slice wa bs.length wc, .map (some kb)] 77)).alloc (.cells #[.int .i64 (e : Int), .string s] 133)) w.heap.size (.slice a p.length cap) (.slice wa bs.length wc) (.map (some kb))) := (K3.new _ _ _ _).below ((Below.refl _ _).alloc (Nat.le_refl _) _)
  have Q0 : Hid (Qb ((w.alloc (.cells #[.slice a p.length cap, .slice wa bs.length wc, .map (some kb)] 77)).alloc (.cells #[.int .i64 (e : Int), .string s] 133)) (w.heap.size + 1) (.int .i64 (e : Int)) (.string s)) := by
    have := Qb.new (w.alloc (.cells #[.slice a p.length cap, .slice wa bs.length wc, .map (some kb)] 77)) (.int .i64 (e : Int)) (.string s)
    show Qb _ _ _ _
    simpa using this
  have S0 : Hid (CasS B ((w.alloc (.cells #[.slice a p.length cap, .slice wa bs.length wc, .map (some kb)] 77)).alloc (.cells #[.int .i64 (e : Int), .string s] 133)) p a cap wa wc bs kb F) := h.below B0.out
  have hkl := h.knw.lt
  have hlen := h.cas.pg.len
  have HQ := hid hq
  have HFx := hid hF
  have HP := hid hp
  obtain ⟨t, Ht⟩ : ∃ t, Hid (comW p F (e : Int) s = t) := ⟨_, hid rfl⟩
  rw [Ht.out]
  clear h hq hF hp
  go_enter Tryz.func37, Tryz.ntmps37
  go_upto_region 4 with fail
  generalize (w.alloc (.cells #[.slice a p.length cap, .slice wa bs.length wc, .map (some kb)] 77)).alloc (.cells #[.int .i64 (e : Int), .string s] 133) = w0 at *
  obtain ⟨cb, Hcb⟩ : ∃ x, Hid (w.heap.size = x) := ⟨_, hid rfl⟩
  rw [Hcb.out] at K0 Q0
  rw [Hcb.out]
  have hcb := Hcb.out
  obtain ⟨k0, k1, k2⟩ := K0.out.cs
  obtain ⟨q0, q1⟩ := Q0.out.cs
  have hsz := B0.out.size
  rcases S0.out.knw.look (e := e) (s := s) (by omega) hs with hlk | hlk
  · have hlk' : (Instr.lookup 75 (.map (some kb)) (.agg #[.int .i64 (e : Int), .string s]) true).run Tryz.prog w0 = .ok (.tuple #[.agg #[.string t], .bool true]) w0 := by rw [hlk, Ht.out]
    clear hlk
    have B1 : Hid (Below w0.heap.size w0 (w0.alloc (.cells #[.string t] 135))) := (Below.refl _ _).alloc (Nat.le_refl _) _
    have V1 : Hid (VarB (w0.alloc (.cells #[.string t] 135)) w0.heap.size (.string t) 135) := VarB.new _ _ _
    go_upto_region 5 with fail
    generalize w0.alloc (.cells #[.string t] 135) = w1 at *
    have S1 := hid (S0.out.below B1.out)
    have HT : Hid (Turn kb w w1) := Turn.of_below (B0.out.trans (B1.out.mono hsz))
    have c1 := V1.out.c
    clear k0 k1 k2 q0 q1 hlk'
    go_wp2_with fail
    go_ret
    exact ⟨rfl, S1.out.knw, HT.out⟩
  · have B1 : Hid (Below w0.heap.size w0 (w0.alloc (.cells #[.string ⟨#[]⟩] 135))) := (Below.refl _ _).alloc (Nat.le_refl _) _
    go_upto_region 5 with fail
    generalize w0.alloc (.cells #[.string ⟨#[]⟩] 135) = w1 at *
    have S1 := hid (S0.out.below B1.out)
    have K1 := hid (K0.out.below B1.out)
    have Q1 := hid (Q0.out.below B1.out)
    have BW : Hid (Below w.heap.size w w1) := B0.out.trans (B1.out.mono hsz)
    clear k0 k1 k2 q0 q1 hlk
    obtain ⟨k0, k1, k2⟩ := K1.out.cs
    obtain ⟨q0, q1⟩ := Q1.out.cs
    go_wp2_with fail
    refine (find_c B p a cap wa wc bs kb F e s w1 S1.out hs he HQ.out (HFx.out s) HP.out).mono ?_
    rw [Ht.out]
    rintro ex w2 ⟨rfl, hk2, ht2⟩
    have hne1 : cb ≠ kb := by omega
    have hne2 : cb + 1 ≠ kb := by omega
    have K2 : Hid (K3 w2 cb (.slice a p.length cap) (.slice wa bs.length wc) (.map (some kb))) := (show _ = _ from (ht2.block cb (K3.lt K1.out) hne1).trans K1.out)
    have Q2 : Hid (Qb w2 (cb + 1) (.int .i64 (e : Int)) (.string s)) := (show _ = _ from (ht2.block (cb + 1) (Qb.lt Q1.out) hne2).trans Q1.out)
    have HT2 : Hid (Turn kb w w2) := (Turn.of_below BW.out).trans ht2
    obtain ⟨o, hr, hM⟩ := hk2.upd (e := e) (s := s) (by omega) hs
    have hr' : (Instr.mapUpdate 75 (.map (some kb)) (.agg #[.int .i64 (e : Int), .string s]) (.agg #[.string t])).run Tryz.prog w2 = .ok () (setBlock w2 kb o) := by rw [← Ht.out]; exact hr
    have HM := hid hM
    have HT3 : Hid (Turn kb w (setBlock w2 kb o)) := turn_set HT2.out
    clear hk2 ht2 hr hM k0 k1 k2 q0 q1
    obtain ⟨k0, k1, k2⟩ := K2.out.cs
    obtain ⟨q0, q1⟩ := Q2.out.cs
    go_wp2_with fail
    go_ret
    exact ⟨rfl, HM.out, HT3.out⟩
theorem com_all (B : Nat) (p : Page) (a : Option Addr) (cap : Nat) (wa : Option Addr) (wc : Nat) (bs : List Nat) (kb : Nat) (F : Nat → ByteArray → Option Win) (hF : ∀ e, e < p.length → ∀ s x, F e s = some x → plV x.val ∧ wzL x.val ≤ 549755813888) (hp : ∀ i, i < p.length → parentOf p i < i) :
    ∀ (n : Nat) (e : Int), e < n → e < p.length → ComOK B p a cap wa wc bs kb F e := by
  intro n
  induction n with
  | zero => intro e h _; exact com_neg _ _ _ _ _ _ _ _ _ (by omega)
  | succ n ih =>
    intro e h1 h2
    by_cases h0 : e < 0
    · exact com_neg _ _ _ _ _ _ _ _ _ h0
    · obtain ⟨k, rfl⟩ : ∃ k : Nat, e = k := ⟨e.toNat, by omega⟩
      have hk : k < p.length := by omega
      have hq := hp k hk
      exact com_step B p a cap wa wc bs kb F k hk (ih _ (by omega) (by omega)) (hF k hk) hp
end Go.Proofs.YtlliliddljkbfaaGreat
