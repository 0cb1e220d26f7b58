import Derived.Test.YtlliliddljkbfaaGreatC18
import Derived.Test.YtlliliddljkbfaaGreatC21
namespace Go.Proofs.YtlliliddljkbfaaGreat
set_option maxHeartbeats 64000000
set_option maxRecDepth 100000
open Go.RowKit Sp
def belN (p : Page) (s : Nat) : Nat → Nat
  | 0 => 0
  | k + 1 => if (hasB s (parentOf p k) || hasB (belN p s k) (parentOf p k)) = true then belN p s k ||| 2 ^ k else belN p s k
theorem belN_lt (p : Page) (s : Nat) (k : Nat) : belN p s k < 2 ^ k := by
  induction k with
  | zero => simp [belN]
  | succ k ih =>
    have h2 : 2 ^ k < 2 ^ (k + 1) := Nat.pow_lt_pow_right (by decide) (by omega)
    unfold belN
    split
    · exact Nat.or_lt_two_pow (by omega) h2
    · omega
structure PgM (B : Nat) (w : World) (p : Page) (a : Option Addr) (cap : Nat) : Prop where
  sg : SG CEl 5 (fun b => b < B) w (.slice a p.length cap) p
  lt : B ≤ w.heap.size
  pg : pageP p = true
theorem PgM.below {B : Nat} {w w' : World} {p : Page} {a : Option Addr} {cap : Nat} {g : Nat} (h : PgM B w p a cap) (hb : Below g w w') (hg : B ≤ g) : PgM B w' p a cap :=
  ⟨h.sg.below CEl.fair hb hg, Nat.le_trans h.lt hb.size, h.pg⟩
theorem PgM.alloc {B : Nat} {w : World} {p : Page} {a : Option Addr} {cap : Nat} (h : PgM B w p a cap) (o : Obj) : PgM B (w.alloc o) p a cap :=
  h.below ((Below.refl _ _).alloc (Nat.le_refl _) o) h.lt
theorem PgM.len {B : Nat} {w : World} {p : Page} {a : Option Addr} {cap : Nat} (h : PgM B w p a cap) : 1 ≤ p.length ∧ p.length ≤ 30 := by
  have := h.pg
  unfold pageP at this
  simp only [Bool.and_eq_true, decide_eq_true_eq] at this
  omega
theorem PgM.par {B : Nat} {w : World} {p : Page} {a : Option Addr} {cap : Nat} (h : PgM B w p a cap) : Par p := page_par h.pg
theorem PgM.at {B : Nat} {w : World} {p : Page} {a : Option Addr} {cap : Nat} (h : PgM B w p a cap) : ∃ g o, a = some ⟨g, o, none⟩ ∧ g < B ∧ p.length ≤ cap ∧ ∀ i, i < p.length → w.cell? ⟨g, o + i * 5, none⟩ = some (.int .i64 (parentOf p i)) := by
  obtain ⟨g, o, rfl, hL, hc⟩ := h.sg.here (by have := h.len; rintro rfl; simp at this)
  obtain ⟨_, _, hX⟩ := hL.el (i := 0) (by have := h.len; omega)
  refine ⟨g, o, rfl, hX.s, hc, fun i hi => ?_⟩
  obtain ⟨cv, av, hX⟩ := hL.el (i := i) hi
  rw [parentOf_at hi]; exact hX.c0
theorem PgM.lo {B : Nat} {w : World} {p : Page} {a : Option Addr} {cap : Nat} (h : PgM B w p a cap) {i : Nat} (hi : i < p.length) : -1 ≤ parentOf p i ∧ parentOf p i < i := by
  have h1 := h.par.lt i hi
  refine ⟨?_, h1⟩
  have h2 := h.pg
  unfold pageP at h2
  simp only [Bool.and_eq_true] at h2
  have h3 : ∀ (p : Page) (i k : Nat), elemsP i p = true → ∀ h : k < p.length, -1 ≤ p[k].parent := by
    intro p
    induction p with
    | nil => intro i k _ h; simp at h
    | cons x r ih =>
      intro i k he hk
      unfold elemsP at he
      simp only [Bool.and_eq_true] at he
      cases k with
      | zero =>
        have h5 := he.1
        rw [elemP_el] at h5
        simp only [Bool.and_eq_true] at h5
        have h6 := h5.1
        unfold parP at h6
        split at h6
        · simp at h6; simp; omega
        · simp at h6; simp; omega
      | succ k => simpa using ih (i + 1) k he.2 (by simpa using hk)
  rw [parentOf_at hi]
  exact h3 p 0 i h2.2 hi
theorem two_blocks (w : World) (v1 : Value) (T1 : TypeId) (v2 : Value) (T2 : TypeId) : VarB ((w.alloc (.cells #[v1] T1)).alloc (.cells #[v2] T2)) w.heap.size v1 T1 ∧ VarB ((w.alloc (.cells #[v1] T1)).alloc (.cells #[v2] T2)) (w.heap.size + 1) v2 T2 ∧ Below w.heap.size w ((w.alloc (.cells #[v1] T1)).alloc (.cells #[v2] T2)) := by
  refine ⟨(VarB.new w v1 T1).alloc _, ?_, ((Below.refl _ _).alloc (Nat.le_refl _) _).alloc (by simp) _⟩
  have := VarB.new (w.alloc (.cells #[v1] T1)) v2 T2
  simpa using this
theorem belN_lt64 (p : Page) (s k : Nat) (hk : k ≤ 30) : belN p s k < 18446744073709551616 := by
  have := belN_lt p s k
  have := all_lt k hk
  omega
theorem belN_or (p : Page) (s k : Nat) (hk : k < 30) (h : (hasB s (parentOf p k) || hasB (belN p s k) (parentOf p k)) = true) : bits .or .u64 (belN p s k : Int) (IntKind.u64.wrap (2 ^ k)) = (belN p s (k + 1) : Int) := by
  have h1 := belN_lt64 p s k (by omega)
  have h2 := all_lt k (by omega)
  rw [one_shl k (by omega), bits_or_u64_nat _ _ h1 (by omega)]
  conv => rhs; unfold belN
  rw [if_pos h]
theorem belN_no (p : Page) (s k : Nat) (h : (hasB s (parentOf p k) || hasB (belN p s k) (parentOf p k)) = false) : belN p s (k + 1) = belN p s k := by
  conv => lhs; unfold belN
  rw [if_neg (by rw [h]; simp)]
theorem Below_c (B : Nat) (p : Page) (a : Option Addr) (cap s : Nat) (w : World) (h : PgM B w p a cap) (hs : s < 18446744073709551616) :
    Calls Tryz.prog 199 #[.agg #[.slice a p.length cap], .int .u64 (s : Int)] w fun ex w' => ex = .returned (.int .u64 (belN p s p.length : Int)) ∧ Below w.heap.size w w' := by
  have B0 : Hid (Below w.heap.size w (w.alloc (.cells #[.slice a p.length cap] 66))) := (Below.refl _ _).alloc (Nat.le_refl _) _
  have V0 : Hid (VarB (w.alloc (.cells #[.slice a p.length cap] 66)) w.heap.size (.slice a p.length cap) 66) := VarB.new _ _ _
  have hlen := h.len
  have HP0 : Hid (PgM B (w.alloc (.cells #[.slice a p.length cap] 66)) p a cap) := h.alloc _
  clear h
  go_enter Tryz.func199, Tryz.ntmps199
  go_wp2_with fail
  generalize w.alloc (.cells #[.slice a p.length cap] 66) = w0 at *
  obtain ⟨pb, Hpb⟩ : ∃ pb, Hid (w.heap.size = pb) := ⟨_, hid rfl⟩
  rw [Hpb.out] at B0 V0
  rw [Hpb.out]
  have c0 := V0.out.c
  go_loopg [5, 11] p.length (fun g v6 v wr => ∃ k : Nat, k + g = p.length ∧ v = .int .i64 (k : Int) ∧ v6 = .int .u64 (belN p s k : Int) ∧ wr = w0)
  case atStart => exact ⟨0, by omega, rfl, rfl, rfl⟩
  case round =>
    obtain ⟨go, hgo⟩ : ∃ go, go = gk := ⟨_, rfl⟩
    obtain ⟨k, hk, rfl, rfl, rfl⟩ := hrel
    by_cases hlt : k < p.length
    · have h1 : (k : Int) < (p.length : Int) := by omega
      obtain ⟨g, o, rfl, hgB, hcap, hcs⟩ := HP0.out.at
      have c1 := hcs k hlt
      have hq := HP0.out.lo hlt
      obtain ⟨q, Hq⟩ : ∃ q, Hid (parentOf p k = q) := ⟨_, hid rfl⟩
      rw [Hq.out] at c1 hq
      clear hcs
      have h30 : (k : Int) < 30 := by omega
      have hbl := belN_lt64 p s k (by omega)
      go_wp2_with fail
      refine (SHas_c s q _ hs (by omega)).mono ?_
      obtain ⟨b1, Hb1⟩ : ∃ b, Hid (hasB s q = b) := ⟨_, hid rfl⟩
      rw [Hb1.out]
      rintro e wq ⟨rfl, hwq⟩
      rw [hwq]
      clear hwq
      cases b1
      · go_wp2_with fail
        refine (SHas_c (belN p s k) q _ hbl (by omega)).mono ?_
        obtain ⟨b2, Hb2⟩ : ∃ b, Hid (hasB (belN p s k) q = b) := ⟨_, hid rfl⟩
        rw [Hb2.out]
        rintro e wq ⟨rfl, hwq⟩
        rw [hwq]
        clear hwq
        cases b2
        · have HV : Hid (belN p s (k + 1) = belN p s k) := belN_no p s k (by rw [Hq.out, Hb1.out, Hb2.out]; rfl)
          go_wp2_with fail
          go_roundg (go - 1)
          case measure => omega
          case rel => exact ⟨k + 1, by omega, by congr 1, by rw [HV.out], rfl⟩
        · have HV : Hid (bits .or .u64 (belN p s k : Int) (IntKind.u64.wrap (2 ^ k)) = (belN p s (k + 1) : Int)) := belN_or p s k (by omega) (by rw [Hq.out, Hb1.out, Hb2.out]; rfl)
          go_wp2_with fail
          go_roundg (go - 1)
          case measure => omega
          case rel => exact ⟨k + 1, by omega, by congr 1, by rw [HV.out], rfl⟩
      · have HV : Hid (bits .or .u64 (belN p s k : Int) (IntKind.u64.wrap (2 ^ k)) = (belN p s (k + 1) : Int)) := belN_or p s k (by omega) (by rw [Hq.out, Hb1.out]; rfl)
        go_wp2_with fail
        go_roundg (go - 1)
        case measure => omega
        case rel => exact ⟨k + 1, by omega, by congr 1, by rw [HV.out], rfl⟩
    · have h1 : (p.length : Int) ≤ (k : Int) := by omega
      have HV : Hid (belN p s k = belN p s p.length) := by show _ = _; rw [show k = p.length by omega]
      go_wp2_with fail
      go_ret
      exact ⟨by rw [HV.out]; rfl, by rw [Hpb.out]; exact B0.out⟩
def elmV (x : Elem) (cv av : Value) : Value := .agg #[.int .i64 x.parent, .string x.tag, .string x.id, cv, av]
def whB (p : Page) (t : Elem → Bool) (i : Nat) : Bool := match p[i]? with | none => false | some x => t x
theorem whB_at {p : Page} {t : Elem → Bool} {i : Nat} (h : i < p.length) : whB p t i = t p[i] := by unfold whB; rw [List.getElem?_eq_getElem h]
theorem Where1_c (B : Nat) (p : Page) (a : Option Addr) (cap fb pb i : Nat) (g : Nat) (cs : Array Value) (t : Elem → Bool) (w : World) (h : PgM B w p a cap) (hi : i < p.length)
    (hfb : VarB w fb (.func (.func g) #[] cs) 170) (hpb : VarB w pb (.slice a p.length cap) 66)
    (hg : ∀ (args : Array Value) (w : World), (callFunc g args).run Tryz.prog w = .ok (.enter g args) w)
    (hf : ∀ cv av w', Below w.heap.size w w' → SG CStr 1 (fun b => b < B) w' cv p[i].classes → SG CAtt 2 (fun b => b < B) w' av p[i].attrs → Calls Tryz.prog g (#[elmV p[i] cv av] ++ cs) w' fun ex w'' => ex = .returned (.bool (t p[i])) ∧ Below w'.heap.size w' w'') :
    Calls Tryz.prog 330 #[.int .i64 (i : Int), .pointer (some ⟨fb, 0, none⟩), .pointer (some ⟨pb, 0, none⟩)] w fun ex w' => ex = .returned (.bool (whB p t i)) ∧ Below w.heap.size w w' := by
  rw [whB_at hi]
  have hlen := h.len
  obtain ⟨g', o, rfl, hL, hcap⟩ := h.sg.here (by rintro rfl; simp at hi)
  obtain ⟨cv, av, hX⟩ := hL.el (i := i) hi
  generalize p[i] = x at *
  obtain ⟨ca, cc, rfl⟩ := hX.cl.form
  obtain ⟨aa, ac, rfl⟩ := hX.at_.form
  have hdr : Below w.heap.size w w.drew := (Below.refl _ _).drew
  have hc := hf _ _ w.drew hdr (hX.cl.below CStr.fair hdr h.lt) (hX.at_.below CAtt.fair hdr h.lt)
  have HC : Hid (Calls Tryz.prog g (#[elmV x (.slice ca x.classes.length cc) (.slice aa x.attrs.length ac)] ++ cs) w.drew fun ex w' => ex = .returned (.bool (t x)) ∧ Below w.heap.size w.drew w') := hc
  obtain ⟨c0, c1, c2, c3, c4⟩ : _ ∧ _ ∧ _ ∧ _ ∧ _ := ⟨hX.c0, hX.c1, hX.c2, hX.c3, hX.c4⟩
  have d1 := hfb.c
  have d2 := hpb.c
  have h1 : (i : Int) < (p.length : Int) := by omega
  have hlt := h.lt
  have hgB : g' < B := hX.s
  have hfl := hfb.lt
  have hpl := hpb.lt
  clear hc hf hX hL h hfb hpb
  go_enter Tryz.func330, Tryz.ntmps330
  go_wp2_with fail
  refine wp_region_any (by kernel_rfl) ?_
  change wpAny _ _ _ _ _ _ _ (World.drew _)
  have HSS : Hid ((fun wx : World => wx.cell? ⟨fb, 0, none⟩ = some (.func (.func g) #[] cs) ∧ wx.cell? ⟨pb, 0, none⟩ = some (.slice (some ⟨g', o, none⟩) p.length cap) ∧ wx.cell? ⟨g', o + i * 5, none⟩ = some (.int .i64 x.parent) ∧ wx.cell? ⟨g', o + i * 5 + 1, none⟩ = some (.string x.tag) ∧ wx.cell? ⟨g', o + i * 5 + 2, none⟩ = some (.string x.id) ∧ wx.cell? ⟨g', o + i * 5 + 3, none⟩ = some (.slice ca x.classes.length cc) ∧ wx.cell? ⟨g', o + i * 5 + 4, none⟩ = some (.slice aa x.attrs.length ac)) w.drew) := ⟨d1, d2, c0, c1, c2, c3, c4⟩
  clear d1 d2 c0 c1 c2 c3 c4
  refine wpAny_of_held (S := (fun wx : World => wx.cell? ⟨fb, 0, none⟩ = some (.func (.func g) #[] cs) ∧ wx.cell? ⟨pb, 0, none⟩ = some (.slice (some ⟨g', o, none⟩) p.length cap) ∧ wx.cell? ⟨g', o + i * 5, none⟩ = some (.int .i64 x.parent) ∧ wx.cell? ⟨g', o + i * 5 + 1, none⟩ = some (.string x.tag) ∧ wx.cell? ⟨g', o + i * 5 + 2, none⟩ = some (.string x.id) ∧ wx.cell? ⟨g', o + i * 5 + 3, none⟩ = some (.slice ca x.classes.length cc) ∧ wx.cell? ⟨g', o + i * 5 + 4, none⟩ = some (.slice aa x.attrs.length ac))) _ _ _ _ ?_
  refine tkH 0 rfl HSS.out (by intro w hSw; obtain ⟨d1, d2, c0, c1, c2, c3, c4⟩ := hSw; go_simp; all_goals with_reducible rfl) ?_
  refine tkH 1 rfl HSS.out (by intro w hSw; obtain ⟨d1, d2, c0, c1, c2, c3, c4⟩ := hSw; go_simp; all_goals with_reducible rfl) ?_
  refine tkH 2 rfl HSS.out (by intro w hSw; obtain ⟨d1, d2, c0, c1, c2, c3, c4⟩ := hSw; go_simp; all_goals with_reducible rfl) ?_
  refine tkH 3 rfl HSS.out (by intro w hSw; obtain ⟨d1, d2, c0, c1, c2, c3, c4⟩ := hSw; go_simp; all_goals with_reducible rfl) ?_
  refine tkH 4 rfl HSS.out (by intro w hSw; obtain ⟨d1, d2, c0, c1, c2, c3, c4⟩ := hSw; go_simp; all_goals with_reducible rfl) ?_
  refine tkH 5 rfl HSS.out (by intro w hSw; obtain ⟨d1, d2, c0, c1, c2, c3, c4⟩ := hSw; go_simp; all_goals with_reducible rfl) ?_
  refine brH 6 fun K hK => ?_
  go_simp
  refine HC.out.mono ?_
  rintro e wq ⟨rfl, hwq⟩
  have BQ : Hid (Below w.heap.size w wq) := ((Below.refl _ _).drew).trans hwq
  have HSQ : Hid ((fun wx : World => wx.cell? ⟨fb, 0, none⟩ = some (.func (.func g) #[] cs) ∧ wx.cell? ⟨pb, 0, none⟩ = some (.slice (some ⟨g', o, none⟩) p.length cap) ∧ wx.cell? ⟨g', o + i * 5, none⟩ = some (.int .i64 x.parent) ∧ wx.cell? ⟨g', o + i * 5 + 1, none⟩ = some (.string x.tag) ∧ wx.cell? ⟨g', o + i * 5 + 2, none⟩ = some (.string x.id) ∧ wx.cell? ⟨g', o + i * 5 + 3, none⟩ = some (.slice ca x.classes.length cc) ∧ wx.cell? ⟨g', o + i * 5 + 4, none⟩ = some (.slice aa x.attrs.length ac)) wq) := by
    obtain ⟨d1, d2, c0, c1, c2, c3, c4⟩ := HSS.out
    have hg' : g' < w.heap.size := by omega
    have eg : ∀ k, wq.cell? ⟨g', k, none⟩ = w.drew.cell? ⟨g', k, none⟩ := fun k => BQ.out.cell (p := ⟨g', k, none⟩) hg'
    refine ⟨(BQ.out.cell (p := ⟨fb, 0, none⟩) hfl).trans d1, (BQ.out.cell (p := ⟨pb, 0, none⟩) hpl).trans d2, (eg _).trans c0, (eg _).trans c1, (eg _).trans c2, (eg _).trans c3, (eg _).trans c4⟩
  clear hwq
  refine hK.out _ _ HSQ.out (fun _ => ?_)
  clear hK K
  refine tkH 7 rfl HSQ.out (by intro w hSw; skip; go_simp; all_goals with_reducible rfl) ?_
  refine wpAnyH_done (by kernel_rfl) ?_ _
  go_wp2_with fail
  go_ret
  exact ⟨rfl, BQ.out⟩
theorem Where_c (B : Nat) (p : Page) (a : Option Addr) (cap : Nat) (g : Nat) (cs : Array Value) (t : Elem → Bool) (w : World) (h : PgM B w p a cap)
    (hg : ∀ (args : Array Value) (w : World), (callFunc g args).run Tryz.prog w = .ok (.enter g args) w)
    (hf : ∀ i, (hi : i < p.length) → ∀ cv av w', Below w.heap.size w w' → SG CStr 1 (fun b => b < B) w' cv p[i].classes → SG CAtt 2 (fun b => b < B) w' av p[i].attrs → Calls Tryz.prog g (#[elmV p[i] cv av] ++ cs) w' fun ex w'' => ex = .returned (.bool (t p[i])) ∧ Below w'.heap.size w' w'') :
    Calls Tryz.prog 328 #[.agg #[.slice a p.length cap], .func (.func g) #[] cs] w fun ex w' => ex = .returned (.int .u64 (setN (whB p t) p.length : Int)) ∧ Below w.heap.size w w' := by
  have hmf := mf_run
  have hlen := h.len
  have hBw := h.lt
  obtain ⟨V1, V2, hb⟩ := two_blocks w (.slice a p.length cap) 66 (.func (.func g) #[] cs) 170
  have P2 : Hid (PgM B ((w.alloc (.cells #[.slice a p.length cap] 66)).alloc (.cells #[.func (.func g) #[] cs] 170)) p a cap) := h.below hb hBw
  have c1 := V1.c
  have c2 := V2.c
  have H1 : Hid (VarB ((w.alloc (.cells #[.slice a p.length cap] 66)).alloc (.cells #[.func (.func g) #[] cs] 170)) w.heap.size (.slice a p.length cap) 66) := V1
  have H2 : Hid (VarB ((w.alloc (.cells #[.slice a p.length cap] 66)).alloc (.cells #[.func (.func g) #[] cs] 170)) (w.heap.size + 1) (.func (.func g) #[] cs) 170) := V2
  have B2 : Hid (Below w.heap.size w ((w.alloc (.cells #[.slice a p.length cap] 66)).alloc (.cells #[.func (.func g) #[] cs] 170))) := hb
  have HF : Hid (∀ i, (hi : i < p.length) → ∀ cv av w', Below w.heap.size w w' → SG CStr 1 (fun b => b < B) w' cv p[i].classes → SG CAtt 2 (fun b => b < B) w' av p[i].attrs → Calls Tryz.prog g (#[elmV p[i] cv av] ++ cs) w' fun ex w'' => ex = .returned (.bool (t p[i])) ∧ Below w'.heap.size w' w'') := hf
  have HG : Hid (∀ (args : Array Value) (w : World), (callFunc g args).run Tryz.prog w = .ok (.enter g args) w) := hg
  clear V1 V2 hb h hf hg
  go_enter Tryz.func328, Tryz.ntmps328
  go_wp2_with fail
  generalize (w.alloc (.cells #[.slice a p.length cap] 66)).alloc (.cells #[.func (.func g) #[] cs] 170) = w2 at *
  refine (numbered_c p.length a cap _ _ (whB p t) w2 hlen.2 (fun _ _ => rfl) ?_).mono ?_
  · intro i hi w' hb'
    refine Where1_c B p a cap _ _ i g cs t w' (P2.out.below hb' P2.out.lt) hi (H2.out.below hb' H2.out.lt) (H1.out.below hb' H1.out.lt) HG.out ?_
    intro cv av w'' hb'' hcv hav
    have hb2 : Below w.heap.size w w' := B2.out.trans (hb'.mono B2.out.size)
    exact HF.out i hi cv av w'' (hb2.trans (hb''.mono hb2.size)) hcv hav
  · rintro e wq ⟨rfl, hwq⟩
    have B3 : Hid (Below w.heap.size w wq) := B2.out.trans (hwq.mono B2.out.size)
    clear hwq
    go_wp2_with fail
    go_ret
    exact ⟨rfl, B3.out⟩
end Go.Proofs.YtlliliddljkbfaaGreat
