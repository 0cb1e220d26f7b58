import Derived.Test.YtlliliddljkbfaaGreatC25
namespace Go.Proofs.YtlliliddljkbfaaGreat
set_option maxHeartbeats 64000000
set_option maxRecDepth 100000
open Go.RowKit Sp
section
attribute [local go_sem] fld_tok fld_ins fld_kind fld_word
def Rg (L B : Nat) : Nat → Prop := fun b => L ≤ b ∧ b < B
theorem own_sgF {α : Type} {C : Law α} {sz : Nat} {T : TypeId} {base L : Nat} {w : World} {v : Value} {l : List α} {cs : List Value} {S : Nat → Prop} (hL : L ≤ base) (hF : Fair C) (hZ : Sized C sz) (h1 : w.ownsRow base T sz v l.length cs) (h2 : CatG C S w l cs) (hS : ∀ g, S g → Frm L w g) (h6 : l.length ≤ 2097152) : SG C sz (Frm L w) w v l := by
  have h3 : CatG C (Frm L w) w l cs := h2.keep hF hS (fun _ _ => rfl)
  rcases h1.2 with ⟨rfl, hn⟩ | ⟨g, cap, cur, rfl, hbg, hg, hnc, hrest⟩
  · have : l = [] := List.eq_nil_of_length_eq_zero hn
    subst this
    exact SG.none_any _ _ _ _ _ _
  · refine ⟨_, cap, rfl, ⟨hnc, h6⟩, fun _ => ⟨g, 0, rfl, CatG.lies (S := Frm L w) hZ ⟨Nat.le_trans hL hbg, (Array.getElem?_eq_some_iff.1 hg).1⟩ l cs 0 h3 fun j u hu => ?_⟩⟩
    have := h1.cells (g := g) rfl j u hu
    rw [Addr.add_lit, Nat.zero_add] at this
    rw [Nat.zero_add]
    exact this
theorem Sl.belq {L B B' : Nat} {w w' : World} {v : Value} {ns : List Nd} (h : Sl (Rg L B) w v ns) (hb : Below B' w w') (hB : B ≤ B') : Sl (Rg L B) w' v ns :=
  h.keep (fun _ hg => hg) fun g hg => hb.block g (Nat.lt_of_lt_of_le hg.2 hB)
structure CutOq (L B : Nat) (w : World) (c : List Nd × Option Nd × List Nd) (v1 sv v2 : Value) : Prop where
  ahead : Sl (Rg L B) w v1 c.1
  behind : Sl (Rg L B) w v2 c.2.2
  stop : match c.2.1 with | none => sv = nodV ⟨0, ⟨#[]⟩, ⟨#[]⟩⟩ (.slice none 0 0) | some n => ∃ kv, sv = nodV n.t kv ∧ Sl (Rg L B) w kv n.kids ∧ TokOK n.t
theorem Cut_q (L B : Nat) (l : List Nd) (v : Value) (zs : List ByteArray) (sg : Nat) (w : World) (h : Sl (Rg L B) w v l) (hB : B ≤ w.heap.size) (hz : zs.length ≤ 10)
    (hsg : sg < w.heap.size) (hc : ∀ j, j < zs.length → w.cell? ⟨sg, 0 + j, none⟩ = some (.string (zs.getD j ByteArray.empty))) :
    Calls Tryz.prog 157 #[v, .slice (some ⟨sg, 0, none⟩) zs.length zs.length] w fun e w' => ∃ v1 sv v2, e = .returned (.tuple #[v1, sv, v2]) ∧ CutOq L B w' (cutN (stopB zs) l) v1 sv v2 ∧ Below w.heap.size w w' := by
  have hl6 := h.len
  have HS : Hid (Sl (Rg L B) w v l) := h
  have HC : Hid (∀ j, j < zs.length → w.cell? ⟨sg, 0 + j, none⟩ = some (.string (zs.getD j ByteArray.empty))) := hc
  obtain ⟨a, cap, rfl⟩ := h.form
  clear h hc
  have Z0 : Hid (VB (w.alloc (.cells #[.int .i64 0, .string ⟨#[]⟩, .string ⟨#[]⟩, .slice none 0 0] 199)) w.heap.size (.int .i64 0) (.string ⟨#[]⟩) (.string ⟨#[]⟩) (.slice none 0 0)) := VB.new _ _ _ _ _
  have B0 : Hid (Below w.heap.size w (w.alloc (.cells #[.int .i64 0, .string ⟨#[]⟩, .string ⟨#[]⟩, .slice none 0 0] 199))) := (Below.refl _ _).alloc (Nat.le_refl _) _
  go_enter Tryz.func157, Tryz.ntmps157
  go_wp2_with fail
  have hsz0 := B0.out.size
  have hlt0 := Z0.out.lt
  generalize w.alloc (.cells #[.int .i64 0, .string ⟨#[]⟩, .string ⟨#[]⟩, .slice none 0 0] 199) = w0 at *
  obtain ⟨rb, Hrb⟩ : ∃ rb, Hid (w.heap.size = rb) := ⟨_, hid rfl⟩
  have hrb : w.heap.size = rb := Hrb.out
  have Z1 : Hid (VB w0 rb (.int .i64 0) (.string ⟨#[]⟩) (.string ⟨#[]⟩) (.slice none 0 0)) := by rw [← Hrb.out]; exact Z0.out
  rw [Hrb.out] at B0 hlt0 hsz0 hB hsg ⊢
  clear Z0 hrb
  go_loopg [11] l.length (fun gg v11 wr => ∃ i : Nat, v11 = .int .i64 (i : Int) ∧ i + gg = l.length ∧ Aside (Below w0.heap.size w0 wr ∧ ∀ k (hk : k < l.length), k < i → stopB zs l[k] = false))
  case atStart => exact ⟨0, rfl, by omega, Below.refl _ _, fun k hk h => by omega⟩
  case round =>
    obtain ⟨i, rfl, hi, hA⟩ := hrel
    have BR : Hid (Below w0.heap.size w0 wr) := hA.out.1
    have HN : Hid (∀ k (hk : k < l.length), k < i → stopB zs l[k] = false) := hA.out.2
    clear hA
    have hsr := BR.out.size
    have BW : Hid (Below rb w wr) := B0.out.trans (BR.out.mono hsz0)
    by_cases hlt : i < l.length
    · have h1 : (i : Int) < (l.length : Int) := by omega
      have S1 := HS.out.belq BW.out hB
      obtain ⟨g, o, rfl, hL, hcap⟩ := S1.here (by rintro rfl; simp at hlt)
      obtain ⟨kv, hN⟩ := hL.node (i := i) hlt
      obtain ⟨n, hn⟩ : ∃ n, n = l[i] := ⟨_, rfl⟩
      rw [← hn] at hN
      have Hn : Hid (n = l[i]) := hn
      have HTOK : Hid (TokOK n.t) := hN.ok
      have HKV : Hid (Sl (Rg L B) wr kv n.kids) := hN.k
      obtain ⟨ka, kc, rfl⟩ := hN.k.form
      have d0 := hN.c0
      have d1 := hN.c1
      have d2 := hN.c2
      have d3 := hN.c3
      have hgB : g < B := hN.s.2
      clear hN hL S1 hn
      have A2 : Hid (VB (wr.alloc (.cells #[.int .i64 n.t.kind, .string n.t.word, .string n.t.unit, .slice ka n.kids.length kc] 199)) wr.heap.size (.int .i64 n.t.kind) (.string n.t.word) (.string n.t.unit) (.slice ka n.kids.length kc)) := VB.new _ _ _ _ _
      have X2 : Hid (Below wr.heap.size wr (wr.alloc (.cells #[.int .i64 n.t.kind, .string n.t.word, .string n.t.unit, .slice ka n.kids.length kc] 199))) := (Below.refl _ _).alloc (Nat.le_refl _) _
      go_upto_region 4 with fail
      generalize wr.alloc (.cells #[.int .i64 n.t.kind, .string n.t.word, .string n.t.unit, .slice ka n.kids.length kc] 199) = w2 at *
      obtain ⟨gt, Hgt⟩ : ∃ gt, Hid (wr.heap.size = gt) := ⟨_, hid rfl⟩
      have A3 : Hid (VB w2 gt (.int .i64 n.t.kind) (.string n.t.word) (.string n.t.unit) (.slice ka n.kids.length kc)) := by rw [← Hgt.out]; exact A2
      rw [Hgt.out]
      clear A2 d0 d1 d2 d3
      obtain ⟨a0, a1, a2, a3⟩ := A3.out.cs
      have B2 : Hid (Below w0.heap.size w0 w2) := BR.out.trans (X2.out.mono hsr)
      have BW2 : Hid (Below rb w w2) := B0.out.trans (B2.out.mono hsz0)
      have hs2 := B2.out.size
      have HZC : ∀ j, j < zs.length → w2.cell? ⟨sg, 0 + j, none⟩ = some (.string (zs.getD j ByteArray.empty)) := fun j hj => by rw [BW2.out.cell (p := ⟨sg, _, none⟩) hsg]; exact HC.out j hj
      have HCT := Tryz.slices_Contains_string sg 0 zs.length zs.length zs n.t.word w2 (Nat.le_refl _) (by omega) HZC
      rw [List.take_of_length_le (Nat.le_refl _)] at HCT
      obtain ⟨z, Hz⟩ : ∃ z, Hid (Lib.containsS zs n.t.word = z) := ⟨_, hid rfl⟩
      rw [Hz.out] at HCT
      have HCT' : Hid (Calls Tryz.prog 188 #[.slice (some ⟨sg, 0, none⟩) zs.length zs.length, .string n.t.word] w2 fun e w' => e = .returned (.bool z) ∧ w' = w2) := HCT
      clear HCT HZC
      cases hk : (n.t.kind == 15)
      · have HST : Hid (stopB zs n = false) := by show (decide (n.t.kind = 15) && _) = false; rw [show decide (n.t.kind = 15) = false from by simpa using hk]; rfl
        have HN2 : Hid (∀ k (hk : k < l.length), k < i + 1 → stopB zs l[k] = false) := fun k hk hki => by
          by_cases e : k = i
          · subst e; rw [← Hn.out]; exact HST.out
          · exact HN.out k hk (by omega)
        go_wp2_with fail
        go_roundg (gk - 1)
        case measure => omega
        case rel => exact ⟨i + 1, by congr 1, by omega, B2.out, HN2.out⟩
      · have hkd : decide (n.t.kind = 15) = true := by simpa using hk
        go_wp2_with fail
        refine HCT'.out.mono ?_
        rintro e wq ⟨rfl, hwq⟩
        rw [hwq]
        clear hwq
        cases z
        · have HST : Hid (stopB zs n = false) := by show (decide (n.t.kind = 15) && _) = false; rw [Hz.out]; exact Bool.and_false _
          have HN2 : Hid (∀ k (hk : k < l.length), k < i + 1 → stopB zs l[k] = false) := fun k hk hki => by
            by_cases e : k = i
            · subst e; rw [← Hn.out]; exact HST.out
            · exact HN.out k hk (by omega)
          go_wp2_with fail
          go_roundg (gk - 1)
          case measure => omega
          case rel => exact ⟨i + 1, by congr 1, by omega, B2.out, HN2.out⟩
        · have HST : Hid (stopB zs n = true) := by show (decide (n.t.kind = 15) && _) = true; rw [Hz.out, hkd]; rfl
          have HV : Hid (cutN (stopB zs) l = (l.take i, some n, l.drop (i + 1))) := by
            show _ = _
            have hst : stopB zs l[i] = true := by rw [← Hn.out]; exact HST.out
            rw [Hn.out]
            exact cutN_stop _ l i hlt (fun k hk => HN.out k (by omega) hk) hst
          have S2 := HS.out.belq BW2.out hB
          obtain ⟨hr1, hS1⟩ := S2.cutu i (by omega)
          obtain ⟨ra, rc, hr2, hS2⟩ := S2.rests (i + 1) (by omega)
          rw [show (((i + 1 : Nat)) : Int) = (i : Int) + 1 by omega] at hr2
          have HS1 : Hid (Sl (Rg L B) w2 (.slice (some ⟨g, o, none⟩) i cap) (l.take i)) := hS1
          have HS2 : Hid (Sl (Rg L B) w2 (.slice ra (l.length - (i + 1)) rc) (l.drop (i + 1))) := hS2
          have HK2 : Hid (Sl (Rg L B) w2 (.slice ka n.kids.length kc) n.kids) := HKV.out.belq X2.out (by omega)
          clear hS1 hS2 S2 hkd
          have hwi : IntKind.i64.wrap ((i : Int) + 1) = (i : Int) + 1 := by rw [IntKind.wrap_i64]; omega
          have Z2 : Hid (VB w2 rb (.int .i64 0) (.string ⟨#[]⟩) (.string ⟨#[]⟩) (.slice none 0 0)) := by show _ = _; rw [B2.out.block rb hlt0]; exact Z1.out
          have z0 := Z2.out.fz 0
          have z1 := Z2.out.fz 1
          have z2 := Z2.out.fz 2
          have z3 := Z2.out.fz 3
          obtain ⟨q0, q1, q2, q3⟩ := Z2.out.cs
          have hne : gt ≠ rb := by have := Hgt.out; omega
          go_wp2_with fail
          refine wp_region_any (by kernel_rfl) ?_
          change wpAny _ _ _ _ _ _ _ (World.drew _)
          have AD : Hid (VB w2.drew gt (.int .i64 n.t.kind) (.string n.t.word) (.string n.t.unit) (.slice ka n.kids.length kc)) := A3.out
          have A9 : Hid (VB (set4 w2.drew rb (.int .i64 n.t.kind) (.string n.t.word) (.string n.t.unit) (.slice ka n.kids.length kc)) gt (.int .i64 n.t.kind) (.string n.t.word) (.string n.t.unit) (.slice ka n.kids.length kc)) := by show _ = _; rw [set4_other w2.drew hne]; exact A3.out
          have BD : Hid (Below rb w w2.drew) := BW2.out.drew
          refine wpAny_of_held (S := fun wx => VB wx gt (.int .i64 n.t.kind) (.string n.t.word) (.string n.t.unit) (.slice ka n.kids.length kc)) _ _ _ _ ?_
          clear a0 a1 a2 a3
          refine tkH 0 rfl AD.out (by intro w hSw; obtain ⟨a0, a1, a2, a3⟩ := hSw.cs; go_simp; all_goals with_reducible rfl) ?_
          refine tkH 1 rfl AD.out (by intro w hSw; obtain ⟨a0, a1, a2, a3⟩ := hSw.cs; go_simp; all_goals with_reducible rfl) ?_
          refine tkH 2 rfl AD.out (by intro w hSw; obtain ⟨a0, a1, a2, a3⟩ := hSw.cs; go_simp; all_goals with_reducible rfl) ?_
          refine tkH 3 rfl AD.out (by intro w hSw; obtain ⟨a0, a1, a2, a3⟩ := hSw.cs; go_simp; all_goals with_reducible rfl) ?_
          refine tkH 4 rfl AD.out (by intro w hSw; obtain ⟨a0, a1, a2, a3⟩ := hSw.cs; go_simp; all_goals with_reducible rfl) ?_
          refine tkH 5 rfl AD.out (by intro w hSw; obtain ⟨a0, a1, a2, a3⟩ := hSw.cs; go_simp; all_goals with_reducible rfl) ?_
          refine tkH 6 rfl AD.out (by intro w hSw; obtain ⟨a0, a1, a2, a3⟩ := hSw.cs; go_simp; all_goals with_reducible rfl) ?_
          refine tkH 7 rfl AD.out (by intro w hSw; obtain ⟨a0, a1, a2, a3⟩ := hSw.cs; go_simp; all_goals with_reducible rfl) ?_
          refine brH 8 fun K hK => ?_
          go_simp
          refine hK.out _ _ (AD.out) (fun _ => ?_); clear hK K
          refine brH 9 fun K hK => ?_
          go_simp
          refine hK.out _ _ (A9.out) (fun _ => ?_); clear hK K
          refine brH 10 fun K hK => ?_
          go_simp
          refine hK.out _ _ (A9.out) (fun _ => ?_); clear hK K
          refine wpAnyH_done (by kernel_rfl) ?_ _
          go_wp2_with fail
          refine bodyPost_ret (v := .tuple #[.slice (some ⟨g, o, none⟩) i cap, nodV n.t (.slice ka n.kids.length kc), .slice ra (l.length - (i + 1)) rc]) (by simp [results, Tryz.results157, go_sem, nodV, q0, q1, q2, q3]) rfl ?_
          have hst : ∀ k, k < B → (set4 w2.drew rb (.int .i64 n.t.kind) (.string n.t.word) (.string n.t.unit) (.slice ka n.kids.length kc)).heap[k]? = w2.heap[k]? := fun k hk => set4_other w2.drew (by omega) _ _ _ _
          exact ⟨_, _, _, rfl, by rw [HV.out]; exact ⟨HS1.out.keep (fun _ hg => hg) (fun k hk => hst k hk.2), HS2.out.keep (fun _ hg => hg) (fun k hk => hst k hk.2), ⟨_, rfl, HK2.out.keep (fun _ hg => hg) (fun k hk => hst k hk.2), HTOK.out⟩⟩, by rw [Hrb.out]; exact set4_below BD.out (Nat.le_refl _) _ _ _ _⟩
    · have h1 : (l.length : Int) ≤ (i : Int) := by omega
      have HV : Hid (cutN (stopB zs) l = (l, none, [])) := cutN_end _ l fun k hk => HN.out k hk (by omega)
      have Z2 : Hid (VB wr rb (.int .i64 0) (.string ⟨#[]⟩) (.string ⟨#[]⟩) (.slice none 0 0)) := by show _ = _; rw [BR.out.block rb hlt0]; exact Z1.out
      have z0 := Z2.out.fz 0
      have z1 := Z2.out.fz 1
      have z2 := Z2.out.fz 2
      have z3 := Z2.out.fz 3
      obtain ⟨q0, q1, q2, q3⟩ := Z2.out.cs
      go_wp2_with fail
      refine bodyPost_ret (v := .tuple #[.slice a l.length cap, nodV ⟨0, ⟨#[]⟩, ⟨#[]⟩⟩ (.slice none 0 0), .slice none 0 0]) (by simp [results, Tryz.results157, go_sem, nodV, q0, q1, q2, q3]) rfl ?_
      exact ⟨_, _, _, rfl, by rw [HV.out]; exact ⟨(HS.out.belq BW.out hB).keep (fun _ hg => hg) (fun k hk => set4_other wr (by have hk' : k < B := hk.2; omega) _ _ _ _), Sl.nil _ _, rfl⟩, by rw [Hrb.out]; exact set4_below BW.out (Nat.le_refl _) _ _ _ _⟩
theorem CutOq.val {L B : Nat} {w : World} {c : List Nd × Option Nd × List Nd} {v1 sv v2 : Value} (h : CutOq L B w c v1 sv v2) : ∃ (t : Tok) (ka : Option Addr) (ks : List Nd) (kc : Nat), sv = nodV t (.slice ka ks.length kc) ∧ Sl (Rg L B) w (.slice ka ks.length kc) ks ∧ (bodyOf c.2.1).isSome = signT t (b1 123) ∧ ∀ b, bodyOf c.2.1 = some b → ks = b := by
  have h3 := h.stop
  cases hc : c.2.1 with
  | none =>
    rw [hc] at h3
    exact ⟨_, none, [], 0, h3, Sl.nil _ _, rfl, fun b hb => by cases hb⟩
  | some n =>
    rw [hc] at h3
    obtain ⟨kv, rfl, hk, _⟩ := h3
    obtain ⟨ka, kc, rfl⟩ := hk.form
    refine ⟨n.t, ka, n.kids, kc, rfl, hk, ?_, fun b hb => ?_⟩
    · show (if isBody n = true then some n.kids else none).isSome = sgnN n (b1 123)
      show (if sgnN n (b1 123) = true then some n.kids else none).isSome = sgnN n (b1 123)
      cases sgnN n (b1 123) <;> rfl
    · unfold bodyOf at hb
      simp only at hb
      split at hb
      · cases hb; rfl
      · cases hb
structure RuleVq (L B : Nat) (w : World) (hd : List Nd) (bo : Option (List Nd)) (hv bv : Value) : Prop where
  head : Sl (Rg L B) w hv hd
  body : ∃ bl, Sl (Rg L B) w bv bl ∧ ∀ b, bo = some b → bl = b
theorem readAt_q (L B : Nat) (n : Nd) (r : List Nd) (v : Value) (w : World) (h : Sl (Rg L B) w v (n :: r)) (hB : B ≤ w.heap.size) :
    Calls Tryz.prog 156 #[v] w fun e w' => ∃ hv bv v2, e = .returned (.tuple #[.agg #[.string n.t.word, hv, .bool (bodyOf (cutN (fun m => isSemi m || isBody m) r).2.1).isSome, bv], v2]) ∧
      RuleVq L B w' (cutN (fun m => isSemi m || isBody m) r).1 (bodyOf (cutN (fun m => isSemi m || isBody m) r).2.1) hv bv ∧ Sl (Rg L B) w' v2 (cutN (fun m => isSemi m || isBody m) r).2.2 ∧ Below w.heap.size w w' := by
  have Hstop : Hid (stopB [⟨#[59]⟩, ⟨#[123]⟩] = fun m => isSemi m || isBody m) := funext stop2
  obtain ⟨c, Hc⟩ : ∃ c, Hid (cutN (fun m => isSemi m || isBody m) r = c) := ⟨_, hid rfl⟩
  rw [Hc.out]
  obtain ⟨g, o, nv, cap, rfl, hN, hcap⟩ := h.head
  obtain ⟨a', hr1, hS1⟩ := h.cut1v
  have HS1 : Hid (Sl (Rg L B) w (.slice a' r.length (cap - 1)) r) := hS1
  have hgB : g < B := hN.s.2
  have HNC : Hid (∀ wx, Below w.heap.size w wx → wx.cell? ⟨g, o + 1, none⟩ = some (.string n.t.word)) := fun wx hb => by rw [hb.cell (p := ⟨g, _, none⟩) (show g < w.heap.size by omega)]; exact hN.c1
  have hl6 := h.len
  clear h hS1 hN
  have R0 : Hid (Q4 130 (w.alloc (.cells #[.string ⟨#[]⟩, .slice none 0 0, .bool false, .slice none 0 0] 130)) w.heap.size (.string ⟨#[]⟩) (.slice none 0 0) (.bool false) (.slice none 0 0)) := Q4.new _ _ _ _ _ _
  have B0 : Hid (Below w.heap.size w (w.alloc (.cells #[.string ⟨#[]⟩, .slice none 0 0, .bool false, .slice none 0 0] 130))) := (Below.refl _ _).alloc (Nat.le_refl _) _
  go_enter Tryz.func156, Tryz.ntmps156
  go_upto_region 1 with fail
  have hsz0 := B0.out.size
  have hlt0 := R0.out.lt
  generalize w.alloc (.cells #[.string ⟨#[]⟩, .slice none 0 0, .bool false, .slice none 0 0] 130) = w0 at *
  obtain ⟨rb, Hrb⟩ : ∃ rb, Hid (w.heap.size = rb) := ⟨_, hid rfl⟩
  rw [Hrb.out] at B0 R0 hB hlt0 hsz0 HNC ⊢
  have S0 : Hid (Sl (Rg L B) w0 (.slice a' r.length (cap - 1)) r) := HS1.out.belq B0.out hB
  clear HS1
  have B1 : Hid (Below w0.heap.size w0 (w0.alloc (.cells #[.string ⟨#[59]⟩, .string ⟨#[123]⟩] 9))) := (Below.refl _ _).alloc (Nat.le_refl _) _
  have HZC : Hid (∀ j, j < 2 → (w0.alloc (.cells #[.string ⟨#[59]⟩, .string ⟨#[123]⟩] 9)).cell? ⟨w0.heap.size, 0 + j, none⟩ = some (.string ([(⟨#[59]⟩ : ByteArray), ⟨#[123]⟩].getD j ByteArray.empty))) := by
    intro j hj
    have hh : (w0.alloc (.cells #[.string ⟨#[59]⟩, .string ⟨#[123]⟩] 9)).heap[w0.heap.size]? = _ := heap_alloc_new w0 _
    unfold World.cell?
    rw [hh]
    rcases (show j = 0 ∨ j = 1 by omega) with rfl | rfl <;> rfl
  go_wp2_with fail
  have hs1 := B1.out.size
  have hlt1 : w0.heap.size < (w0.alloc (.cells #[.string ⟨#[59]⟩, .string ⟨#[123]⟩] 9)).heap.size := by simp
  generalize w0.alloc (.cells #[.string ⟨#[59]⟩, .string ⟨#[123]⟩] 9) = w1 at *
  refine (Cut_q L B r _ [⟨#[59]⟩, ⟨#[123]⟩] _ w1 (S0.out.belq B1.out (by omega)) (by omega) (by simp) hlt1 HZC.out).mono ?_
  rw [Hstop.out, Hc.out]
  rintro e w2 ⟨v1, sv, v2, rfl, hcut, hb2⟩
  obtain ⟨t, ka, ks, kc, rfl, hks, hsome, hbody⟩ := hcut.val
  obtain ⟨va, vc, rfl⟩ := hcut.ahead.form
  obtain ⟨ba, bc, rfl⟩ := hcut.behind.form
  have B2 : Hid (Below w0.heap.size w0 w2) := B1.out.trans (hb2.mono hs1)
  have BW2 : Hid (Below rb w w2) := B0.out.trans (B2.out.mono hsz0)
  have HA : Hid (Sl (Rg L B) w2 (.slice va c.1.length vc) c.1) := hcut.ahead
  have HBH : Hid (Sl (Rg L B) w2 (.slice ba c.2.2.length bc) c.2.2) := hcut.behind
  have HKS : Hid (Sl (Rg L B) w2 (.slice ka ks.length kc) ks) := hks
  have HSM : Hid ((bodyOf c.2.1).isSome = signT t (b1 123)) := hsome
  have HBD : Hid (∀ b, bodyOf c.2.1 = some b → ks = b) := hbody
  have R2 : Hid (Q4 130 w2 rb (.string ⟨#[]⟩) (.slice none 0 0) (.bool false) (.slice none 0 0)) := by show _ = _; rw [B2.out.block rb hlt0]; exact R0.out
  have hs2 := B2.out.size
  clear hcut hks hsome hbody hb2 S0 HZC hlt1 B1
  unfold nodV
  have A3 : Hid (VB (w2.alloc (.cells #[.int .i64 t.kind, .string t.word, .string t.unit, .slice ka ks.length kc] 199)).drew w2.heap.size (.int .i64 t.kind) (.string t.word) (.string t.unit) (.slice ka ks.length kc)) := VB.new _ _ _ _ _
  have X3 : Hid (Below w2.heap.size w2 (w2.alloc (.cells #[.int .i64 t.kind, .string t.word, .string t.unit, .slice ka ks.length kc] 199)).drew) := ((Below.refl _ _).alloc (Nat.le_refl _) _).drew
  go_wp2_with fail
  refine wp_region_any (by kernel_rfl) ?_
  change wpAny _ _ _ _ _ _ _ (World.drew _)
  generalize (w2.alloc (.cells #[.int .i64 t.kind, .string t.word, .string t.unit, .slice ka ks.length kc] 199)).drew = w3 at *
  obtain ⟨gt, Hgt⟩ : ∃ gt, Hid (w2.heap.size = gt) := ⟨_, hid rfl⟩
  have A4 : Hid (VB w3 gt (.int .i64 t.kind) (.string t.word) (.string t.unit) (.slice ka ks.length kc)) := by rw [← Hgt.out]; exact A3.out
  rw [Hgt.out]
  have BW3 : Hid (Below rb w w3) := BW2.out.trans (X3.out.mono (by omega))
  have R3 : Hid (Q4 130 w3 rb (.string ⟨#[]⟩) (.slice none 0 0) (.bool false) (.slice none 0 0)) := R2.out.below X3.out
  have HS3 : Below rb w w3 ∧ VB w3 gt (.int .i64 t.kind) (.string t.word) (.string t.unit) (.slice ka ks.length kc) := ⟨BW3.out, A4.out⟩
  have HH3 : Hid (Below rb w w3 ∧ VB w3 gt (.int .i64 t.kind) (.string t.word) (.string t.unit) (.slice ka ks.length kc)) := HS3
  clear HS3 A3
  obtain ⟨sb, Hsb⟩ : ∃ sb, Hid (signT t (b1 123) = sb) := ⟨_, hid rfl⟩
  rw [Hsb.out] at HSM
  refine wpAny_of_held (S := fun wx => Below rb w wx ∧ VB wx gt (.int .i64 t.kind) (.string t.word) (.string t.unit) (.slice ka ks.length kc)) _ _ _ _ ?_
  refine tkH 0 rfl HH3.out (by intro w hSw; skip; go_simp; all_goals with_reducible rfl) ?_
  refine tkH 1 rfl HH3.out (by intro w hSw; skip; go_simp; all_goals with_reducible rfl) ?_
  refine tkH 2 rfl HH3.out (by intro w hSw; skip; go_simp; all_goals with_reducible rfl) ?_
  refine tkH 3 rfl HH3.out (by intro w hSw; skip; go_simp; all_goals with_reducible rfl) ?_
  refine tkH 4 rfl HH3.out (by intro w hSw; have q1 := HNC.out w hSw.1; go_simp; all_goals with_reducible rfl) ?_
  refine tkH 5 rfl HH3.out (by intro w hSw; skip; go_simp; all_goals with_reducible rfl) ?_
  refine tkH 6 rfl HH3.out (by intro w hSw; obtain ⟨a0, a1, a2, a3⟩ := hSw.2.cs; go_simp; all_goals with_reducible rfl) ?_
  refine tkH 8 rfl HH3.out (by intro w hSw; obtain ⟨a0, a1, a2, a3⟩ := hSw.2.cs; go_simp; all_goals with_reducible rfl) ?_
  refine tkH 9 rfl HH3.out (by intro w hSw; obtain ⟨a0, a1, a2, a3⟩ := hSw.2.cs; go_simp; all_goals with_reducible rfl) ?_
  refine tkH 11 rfl HH3.out (by intro w hSw; skip; go_simp; all_goals with_reducible rfl) ?_
  refine brH 7 fun K hK => ?_
  go_simp
  refine (IsSign_c t _ (b1 123) _).mono ?_
  rw [Hsb.out]
  rintro e w4 ⟨rfl, hb4⟩
  have X4 : Hid (Below w2.heap.size w2 w4) := X3.out.trans (hb4.mono X3.out.size)
  have BW4 : Hid (Below rb w w4) := BW2.out.trans (X4.out.mono (by omega))
  have HH4 : Hid (Below rb w w4 ∧ VB w4 gt (.int .i64 t.kind) (.string t.word) (.string t.unit) (.slice ka ks.length kc)) := ⟨BW4.out, A4.out.below hb4⟩
  have R4 : Hid (Q4 130 w4 rb (.string ⟨#[]⟩) (.slice none 0 0) (.bool false) (.slice none 0 0)) := R3.out.below hb4
  clear hb4 R3 R2
  refine hK.out _ _ HH4.out (fun _ => ?_)
  clear hK K
  refine tkH 10 rfl HH4.out (by intro w hSw; skip; go_simp; all_goals with_reducible rfl) ?_
  have z0 := R4.out.fz 0
  have z1 := R4.out.fz 1
  have z2 := R4.out.fz 2
  have z3 := R4.out.fz 3
  obtain ⟨q0, q1, q2, q3⟩ := R4.out.cs
  have hne : gt ≠ rb := by have := Hgt.out; omega
  have HH5 : Hid (Below rb w (set4 w4 rb (.string n.t.word) (.slice va c.1.length vc) (.bool sb) (.slice ka ks.length kc)) ∧ VB (set4 w4 rb (.string n.t.word) (.slice va c.1.length vc) (.bool sb) (.slice ka ks.length kc)) gt (.int .i64 t.kind) (.string t.word) (.string t.unit) (.slice ka ks.length kc)) := ⟨set4_below BW4.out (Nat.le_refl _) _ _ _ _, by show _ = _; rw [set4_other w4 hne]; exact HH4.out.2⟩
  refine brH 12 fun K hK => ?_
  go_simp
  refine hK.out _ _ (HH5.out) (fun _ => ?_); clear hK K
  refine brH 13 fun K hK => ?_
  go_simp
  refine hK.out _ _ (HH5.out) (fun _ => ?_); clear hK K
  refine wpAnyH_done (by kernel_rfl) ?_ _
  go_wp2_with fail
  refine bodyPost_ret (v := .tuple #[.agg #[.string n.t.word, .slice va c.1.length vc, .bool sb, .slice ka ks.length kc], .slice ba c.2.2.length bc]) (by simp [results, Tryz.results156, go_sem, q0, q1, q2, q3]) rfl ?_
  have hst : ∀ k, k < B → (set4 w4 rb (.string n.t.word) (.slice va c.1.length vc) (.bool sb) (.slice ka ks.length kc)).heap[k]? = w2.heap[k]? := fun k hk => by rw [set4_other w4 (by omega)]; exact X4.out.block k (by omega)
  exact ⟨_, _, _, by rw [HSM.out], ⟨HA.out.keep (fun _ hg => hg) (fun k hk => hst k hk.2), ks, HKS.out.keep (fun _ hg => hg) (fun k hk => hst k hk.2), HBD.out⟩, HBH.out.keep (fun _ hg => hg) (fun k hk => hst k hk.2), by rw [Hrb.out]; exact HH5.out.1⟩
theorem readRule_q (L B : Nat) (n : Nd) (r : List Nd) (v : Value) (w : World) (h : Sl (Rg L B) w v (n :: r)) (hB : B ≤ w.heap.size) :
    Calls Tryz.prog 187 #[v] w fun e w' => ∃ hv bv v2, e = .returned (.tuple #[.agg #[.string (ruleOne n r).1, hv, .bool (ruleOne n r).2.2.1.isSome, bv], v2]) ∧
      RuleVq L B w' (ruleOne n r).2.1 (ruleOne n r).2.2.1 hv bv ∧ Sl (Rg L B) w' v2 (ruleOne n r).2.2.2 ∧ Below w.heap.size w w' := by
  obtain ⟨g, o, nv, cap, rfl, hN, hcap⟩ := h.head
  have HS : Hid (Sl (Rg L B) w (.slice (some ⟨g, o, none⟩) (r.length + 1) cap) (n :: r)) := h
  have hgB : g < B := hN.s.2
  have HNC : Hid (∀ wx, Below w.heap.size w wx → wx.cell? ⟨g, o, none⟩ = some (.int .i64 n.t.kind)) := fun wx hb => by rw [hb.cell (p := ⟨g, _, none⟩) (show g < w.heap.size by omega)]; exact hN.c0
  have hl6 := h.len
  clear h hN
  have R0 : Hid (Q4 130 (w.alloc (.cells #[.string ⟨#[]⟩, .slice none 0 0, .bool false, .slice none 0 0] 130)) w.heap.size (.string ⟨#[]⟩) (.slice none 0 0) (.bool false) (.slice none 0 0)) := Q4.new _ _ _ _ _ _
  have B0 : Hid (Below w.heap.size w (w.alloc (.cells #[.string ⟨#[]⟩, .slice none 0 0, .bool false, .slice none 0 0] 130))) := (Below.refl _ _).alloc (Nat.le_refl _) _
  go_enter Tryz.func187, Tryz.ntmps187
  go_upto_region 1 with fail
  have hsz0 := B0.out.size
  have hlt0 := R0.out.lt
  generalize w.alloc (.cells #[.string ⟨#[]⟩, .slice none 0 0, .bool false, .slice none 0 0] 130) = w0 at *
  obtain ⟨rb, Hrb⟩ : ∃ rb, Hid (w.heap.size = rb) := ⟨_, hid rfl⟩
  rw [Hrb.out] at B0 R0 hB hlt0 hsz0 HNC ⊢
  have S0 : Hid (Sl (Rg L B) w0 (.slice (some ⟨g, o, none⟩) (r.length + 1) cap) (n :: r)) := HS.out.belq B0.out hB
  have c0 := HNC.out w0 B0.out
  clear HS
  cases hk : (n.t.kind == 10)
  · have hk' : ¬ n.t.kind = 10 := by simpa using hk
    obtain ⟨c, Hc⟩ : ∃ c, Hid (cutN isBody (n :: r) = c) := ⟨_, hid rfl⟩
    have HO : Hid (ruleOne n r = (nob, c.1, bodyOf c.2.1, c.2.2)) := by show _ = _; unfold ruleOne; rw [if_neg hk', Hc.out]
    have Hstop : Hid (stopB [⟨#[123]⟩] = isBody) := funext stop1
    clear hk'
    have B1 : Hid (Below w0.heap.size w0 (w0.alloc (.cells #[.string ⟨#[123]⟩] 9))) := (Below.refl _ _).alloc (Nat.le_refl _) _
    have HZC : Hid (∀ j, j < 1 → (w0.alloc (.cells #[.string ⟨#[123]⟩] 9)).cell? ⟨w0.heap.size, 0 + j, none⟩ = some (.string ([(⟨#[123]⟩ : ByteArray)].getD j ByteArray.empty))) := by
      intro j hj
      have hh : (w0.alloc (.cells #[.string ⟨#[123]⟩] 9)).heap[w0.heap.size]? = _ := heap_alloc_new w0 _
      unfold World.cell?
      rw [hh]
      obtain rfl : j = 0 := by omega
      rfl
    go_wp2_with fail
    have hs1 := B1.out.size
    have hlt1 : w0.heap.size < (w0.alloc (.cells #[.string ⟨#[123]⟩] 9)).heap.size := by simp
    generalize w0.alloc (.cells #[.string ⟨#[123]⟩] 9) = w1 at *
    refine (Cut_q L B (n :: r) _ [⟨#[123]⟩] _ w1 (S0.out.belq B1.out (by omega)) (by omega) (by simp) hlt1 HZC.out).mono ?_
    rw [Hstop.out, Hc.out]
    rintro e w2 ⟨v1, sv, v2, rfl, hcut, hb2⟩
    obtain ⟨t, ka, ks, kc, rfl, hks, hsome, hbody⟩ := hcut.val
    obtain ⟨va, vc, rfl⟩ := hcut.ahead.form
    obtain ⟨ba, bc, rfl⟩ := hcut.behind.form
    have B2 : Hid (Below w0.heap.size w0 w2) := B1.out.trans (hb2.mono hs1)
    have BW2 : Hid (Below rb w w2) := B0.out.trans (B2.out.mono hsz0)
    have HA : Hid (Sl (Rg L B) w2 (.slice va c.1.length vc) c.1) := hcut.ahead
    have HBH : Hid (Sl (Rg L B) w2 (.slice ba c.2.2.length bc) c.2.2) := hcut.behind
    have HKS : Hid (Sl (Rg L B) w2 (.slice ka ks.length kc) ks) := hks
    have HSM : Hid ((bodyOf c.2.1).isSome = signT t (b1 123)) := hsome
    have HBD : Hid (∀ b, bodyOf c.2.1 = some b → ks = b) := hbody
    have R2 : Hid (Q4 130 w2 rb (.string ⟨#[]⟩) (.slice none 0 0) (.bool false) (.slice none 0 0)) := by show _ = _; rw [B2.out.block rb hlt0]; exact R0.out
    have hs2 := B2.out.size
    clear hcut hks hsome hbody hb2 S0 HZC hlt1 B1 c0
    unfold nodV
    have A3 : Hid (VB (w2.alloc (.cells #[.int .i64 t.kind, .string t.word, .string t.unit, .slice ka ks.length kc] 199)).drew w2.heap.size (.int .i64 t.kind) (.string t.word) (.string t.unit) (.slice ka ks.length kc)) := VB.new _ _ _ _ _
    have X3 : Hid (Below w2.heap.size w2 (w2.alloc (.cells #[.int .i64 t.kind, .string t.word, .string t.unit, .slice ka ks.length kc] 199)).drew) := ((Below.refl _ _).alloc (Nat.le_refl _) _).drew
    go_wp2_with fail
    refine wp_region_any (by kernel_rfl) ?_
    change wpAny _ _ _ _ _ _ _ (World.drew _)
    generalize (w2.alloc (.cells #[.int .i64 t.kind, .string t.word, .string t.unit, .slice ka ks.length kc] 199)).drew = w3 at *
    obtain ⟨gt, Hgt⟩ : ∃ gt, Hid (w2.heap.size = gt) := ⟨_, hid rfl⟩
    have A4 : Hid (VB w3 gt (.int .i64 t.kind) (.string t.word) (.string t.unit) (.slice ka ks.length kc)) := by rw [← Hgt.out]; exact A3.out
    rw [Hgt.out]
    have R3 : Hid (Q4 130 w3 rb (.string ⟨#[]⟩) (.slice none 0 0) (.bool false) (.slice none 0 0)) := R2.out.below X3.out
    clear A3
    obtain ⟨sb, Hsb⟩ : ∃ sb, Hid (signT t (b1 123) = sb) := ⟨_, hid rfl⟩
    rw [Hsb.out] at HSM
    refine wpAny_of_held (S := fun wx => VB wx gt (.int .i64 t.kind) (.string t.word) (.string t.unit) (.slice ka ks.length kc)) _ _ _ _ ?_
    refine tkH 0 rfl A4.out (by intro w hSw; skip; go_simp; all_goals with_reducible rfl) ?_
    refine tkH 1 rfl A4.out (by intro w hSw; obtain ⟨a0, a1, a2, a3⟩ := hSw.cs; go_simp; all_goals with_reducible rfl) ?_
    refine tkH 3 rfl A4.out (by intro w hSw; obtain ⟨a0, a1, a2, a3⟩ := hSw.cs; go_simp; all_goals with_reducible rfl) ?_
    refine tkH 4 rfl A4.out (by intro w hSw; obtain ⟨a0, a1, a2, a3⟩ := hSw.cs; go_simp; all_goals with_reducible rfl) ?_
    refine tkH 6 rfl A4.out (by intro w hSw; skip; go_simp; all_goals with_reducible rfl) ?_
    refine brH 2 fun K hK => ?_
    go_simp
    refine (IsSign_c t _ (b1 123) _).mono ?_
    rw [Hsb.out]
    rintro e w4 ⟨rfl, hb4⟩
    have X4 : Hid (Below w2.heap.size w2 w4) := X3.out.trans (hb4.mono X3.out.size)
    have BW4 : Hid (Below rb w w4) := BW2.out.trans (X4.out.mono (by omega))
    have A5 : Hid (VB w4 gt (.int .i64 t.kind) (.string t.word) (.string t.unit) (.slice ka ks.length kc)) := A4.out.below hb4
    have R4 : Hid (Q4 130 w4 rb (.string ⟨#[]⟩) (.slice none 0 0) (.bool false) (.slice none 0 0)) := R3.out.below hb4
    clear hb4 R3 R2
    refine hK.out _ _ A5.out (fun _ => ?_)
    clear hK K
    refine tkH 5 rfl A5.out (by intro w hSw; skip; go_simp; all_goals with_reducible rfl) ?_
    have z0 := R4.out.fz 0
    have z1 := R4.out.fz 1
    have z2 := R4.out.fz 2
    have z3 := R4.out.fz 3
    obtain ⟨q0, q1, q2, q3⟩ := R4.out.cs
    have hne : gt ≠ rb := by have := Hgt.out; omega
    have HB5 : Hid (Below rb w (set4 w4 rb (.string ⟨#[]⟩) (.slice va c.1.length vc) (.bool sb) (.slice ka ks.length kc))) := set4_below BW4.out (Nat.le_refl _) _ _ _ _
    have A6 : Hid (VB (set4 w4 rb (.string ⟨#[]⟩) (.slice va c.1.length vc) (.bool sb) (.slice ka ks.length kc)) gt (.int .i64 t.kind) (.string t.word) (.string t.unit) (.slice ka ks.length kc)) := by show _ = _; rw [set4_other w4 hne]; exact A5.out
    refine brH 7 fun K hK => ?_
    go_simp
    refine hK.out _ _ (A6.out) (fun _ => ?_); clear hK K
    refine brH 8 fun K hK => ?_
    go_simp
    refine hK.out _ _ (A6.out) (fun _ => ?_); clear hK K
    refine wpAnyH_done (by kernel_rfl) ?_ _
    go_wp2_with fail
    refine bodyPost_ret (v := .tuple #[.agg #[.string ⟨#[]⟩, .slice va c.1.length vc, .bool sb, .slice ka ks.length kc], .slice ba c.2.2.length bc]) (by simp [results, Tryz.results187, go_sem, q0, q1, q2, q3]) rfl ?_
    have hst : ∀ k, k < B → (set4 w4 rb (.string ⟨#[]⟩) (.slice va c.1.length vc) (.bool sb) (.slice ka ks.length kc)).heap[k]? = w2.heap[k]? := fun k hk => by rw [set4_other w4 (by omega)]; exact X4.out.block k (by omega)
    rw [HO.out]
    exact ⟨_, _, _, by rw [HSM.out]; rfl, ⟨HA.out.keep (fun _ hg => hg) (fun k hk => hst k hk.2), ks, HKS.out.keep (fun _ hg => hg) (fun k hk => hst k hk.2), HBD.out⟩, HBH.out.keep (fun _ hg => hg) (fun k hk => hst k hk.2), by rw [Hrb.out]; exact HB5.out⟩
  · have hk' : n.t.kind = 10 := by simpa using hk
    obtain ⟨c, Hc⟩ : ∃ c, Hid (cutN (fun m => isSemi m || isBody m) r = c) := ⟨_, hid rfl⟩
    have HO : Hid (ruleOne n r = (n.t.word, c.1, bodyOf c.2.1, c.2.2)) := by show _ = _; unfold ruleOne; rw [if_pos hk', Hc.out]
    clear hk'
    go_wp2_with fail
    refine (readAt_q L B n r _ w0 S0.out (by omega)).mono ?_
    rw [Hc.out]
    rintro e w2 ⟨hv, bv, v2, rfl, hrv, hbh, hb2⟩
    obtain ⟨va, vc, rfl⟩ := hrv.head.form
    obtain ⟨bl, hbl, hbe⟩ := hrv.body
    obtain ⟨ka, kc, rfl⟩ := hbl.form
    obtain ⟨ba, bc, rfl⟩ := hbh.form
    obtain ⟨sb, Hsb⟩ : ∃ sb, Hid ((bodyOf c.2.1).isSome = sb) := ⟨_, hid rfl⟩
    rw [Hsb.out]
    have BW2 : Hid (Below rb w w2) := B0.out.trans (hb2.mono hsz0)
    have HA : Hid (Sl (Rg L B) w2 (.slice va c.1.length vc) c.1) := hrv.head
    have HBH : Hid (Sl (Rg L B) w2 (.slice ba c.2.2.length bc) c.2.2) := hbh
    have HKS : Hid (Sl (Rg L B) w2 (.slice ka bl.length kc) bl) := hbl
    have HBD : Hid (∀ b, bodyOf c.2.1 = some b → bl = b) := hbe
    have R2 : Hid (Q4 130 w2 rb (.string ⟨#[]⟩) (.slice none 0 0) (.bool false) (.slice none 0 0)) := R0.out.below hb2
    clear hrv hbl hbe hbh hb2 S0 c0
    have z0 := R2.out.fz 0
    have z1 := R2.out.fz 1
    have z2 := R2.out.fz 2
    have z3 := R2.out.fz 3
    obtain ⟨q0, q1, q2, q3⟩ := R2.out.cs
    go_wp2_with fail
    refine bodyPost_ret (v := .tuple #[.agg #[.string n.t.word, .slice va c.1.length vc, .bool sb, .slice ka bl.length kc], .slice ba c.2.2.length bc]) (by simp [results, Tryz.results187, go_sem, q0, q1, q2, q3]) rfl ?_
    have hst : ∀ k, k < B → (set4 w2 rb (.string n.t.word) (.slice va c.1.length vc) (.bool sb) (.slice ka bl.length kc)).heap[k]? = w2.heap[k]? := fun k hk => set4_other w2 (by omega) _ _ _ _
    rw [HO.out]
    exact ⟨_, _, _, by rw [Hsb.out], ⟨HA.out.keep (fun _ hg => hg) (fun k hk => hst k hk.2), bl, HKS.out.keep (fun _ hg => hg) (fun k hk => hst k hk.2), HBD.out⟩, HBH.out.keep (fun _ hg => hg) (fun k hk => hst k hk.2), by rw [Hrb.out]; exact set4_below BW2.out (Nat.le_refl _) _ _ _ _⟩
structure RaIq (L B : Nat) (sh : Bool) (w : World) (l : List Nd) (u : Value) (acc : List Rule) (cs : List Value) (cv : Value) (cur : List Nd) (wr : World) : Prop where
  row : wr.ownsRow w.heap.size 130 4 u acc.length cs
  cat : CatG CRule (Rg L B) wr acc cs
  now : Sl (Rg L B) wr cv cur
  below : Below w.heap.size w wr
  eq : rules sh l = acc ++ rules sh cur
  ln : acc.length + cur.length ≤ l.length
theorem readAll_q (L B : Nat) (sh : Bool) (l : List Nd) (v : Value) (zs : List Int) (sg : Nat) (w : World) (h : Sl (Rg L B) w v l) (hB : B ≤ w.heap.size) (hz : zs.length ≤ 10) (hsg : sg < w.heap.size)
    (hc : ∀ j, j < zs.length → w.cell? ⟨sg, 0 + j, none⟩ = some (.int .i64 (zs.getD j 0))) (hp : ∀ n : Nd, zs.contains n.t.kind = passN sh n) (hLw : L ≤ w.heap.size) :
    Calls Tryz.prog 115 #[v, .slice (some ⟨sg, 0, none⟩) zs.length zs.length] w fun e w' => ∃ u, e = .returned u ∧ SG CRule 4 (Frm L w') w' u (rules sh l) ∧ Below w.heap.size w w' := by
  have hl6 := h.len
  have HS : Hid (Sl (Rg L B) w v l) := h
  have HC : Hid (∀ j, j < zs.length → w.cell? ⟨sg, 0 + j, none⟩ = some (.int .i64 (zs.getD j 0))) := hc
  have HP : Hid (∀ n : Nd, zs.contains n.t.kind = passN sh n) := hp
  obtain ⟨a, cap, rfl⟩ := h.form
  clear h hc hp
  obtain ⟨iT, hiT⟩ := info_rule
  have HI : Hid (Tryz.prog.info? 130 = some iT ∧ iT.zero = some (.agg #[.string ⟨#[]⟩, .slice none 0 0, .bool false, .slice none 0 0]) ∧ iT.size = 4 ∧ iT.bytes = 72) := hiT
  clear hiT
  go_enter Tryz.func115, Tryz.ntmps115
  go_wp2_with fail
  go_loopg [0, 5] l.length (fun gg v0 v5 wr => ∃ (u cv : Value) (acc : List Rule) (cs : List Value) (cur : List Nd), u = v5 ∧ cv = v0 ∧ cur.length ≤ gg ∧ acc.length ≤ 600 ∧ Aside (RaIq L B sh w l u acc cs cv cur wr))
  case atStart => exact ⟨_, _, [], [], l, rfl, rfl, by omega, by simp, World.ownsRow_nil _ _ _ _, rfl, HS.out, Below.refl _ _, rfl, by simp⟩
  case round =>
    obtain ⟨u, cv, acc, cs, cur, rfl, rfl, hcl, hal, hA⟩ := hrel
    have HR : Hid (RaIq L B sh w l u acc cs cv cur wr) := hA.out
    clear hA
    obtain ⟨ua, uc, rfl⟩ := own_form HR.out.row
    have hsr := HR.out.below.size
    cases cur with
    | nil =>
      obtain ⟨ca, cc, rfl⟩ := HR.out.now.form
      have HV : Hid (rules sh l = acc) := by show _ = _; rw [HR.out.eq]; exact List.append_nil _
      go_wp2_with fail
      go_ret
      exact ⟨_, rfl, by rw [HV.out]; exact own_sgF hLw CRule.fair CRule.sized HR.out.row HR.out.cat (fun g hg => ⟨hg.1, by have := hg.2; omega⟩) (by omega), HR.out.below⟩
    | cons n r =>
      obtain ⟨g, o, nv, cap', rfl, hN, hcap⟩ := HR.out.now.head
      have c0 := hN.c0
      have HTOK : Hid (TokOK n.t) := hN.ok
      clear hN
      have h1 : (0 : Int) < ((r.length + 1 : Nat) : Int) := by omega
      simp only [List.length_cons] at hcl
      have HZC : ∀ j, j < zs.length → wr.cell? ⟨sg, 0 + j, none⟩ = some (.int .i64 (zs.getD j 0)) := fun j hj => by rw [HR.out.below.cell (p := ⟨sg, _, none⟩) hsg]; exact HC.out j hj
      have HCT := Tryz.slices_Contains_int sg 0 zs.length zs.length zs n.t.kind wr (Nat.le_refl _) (by omega) HZC
      rw [List.take_of_length_le (Nat.le_refl _), HP.out n] at HCT
      obtain ⟨z, Hz⟩ : ∃ z, Hid (passN sh n = z) := ⟨_, hid rfl⟩
      rw [Hz.out] at HCT
      have HCT' : Hid (Calls Tryz.prog 186 #[.slice (some ⟨sg, 0, none⟩) zs.length zs.length, .int .i64 n.t.kind] wr fun e w' => e = .returned (.bool z) ∧ w' = wr) := HCT
      clear HCT HZC
      obtain ⟨a1, hr1, hS1⟩ := HR.out.now.cut1v
      have HS1 : Hid (Sl (Rg L B) wr (.slice a1 r.length (cap' - 1)) r) := hS1
      clear hS1
      have hln := HR.out.ln
      simp only [List.length_cons] at hln
      go_wp2_with fail
      refine HCT'.out.mono ?_
      rintro e wq ⟨rfl, hwq⟩
      rw [hwq]
      clear hwq HCT'
      cases z
      · clear hr1 HS1
        obtain ⟨⟨at_, hd, bo, rest⟩, Ho⟩ : ∃ o, Hid (ruleOne n r = o) := ⟨_, hid rfl⟩
        have HNM : Hid (n.t.kind = 10 → n.t.word ≠ nob) := fun hk e => by have := HTOK.out.named (.inr (.inl hk)); rw [e] at this; exact absurd this (by decide)
        have HEQ : Hid (rules sh l = acc ++ (ruleMk (at_, hd, bo, rest) ++ rules sh rest)) := by show _ = _; rw [HR.out.eq, rules_one Hz.out HNM.out, Ho.out]
        have HRL : rest.length ≤ r.length := by
          have e : (ruleOne n r).2.2.2 = rest := by rw [Ho.out]
          rw [← e]
          unfold ruleOne
          split
          · have := cutN_len (fun m => isSemi m || isBody m) r; show (cutN _ r).2.2.length ≤ _; omega
          · have := cutN_len isBody (n :: r); simp only [List.length_cons] at this; show (cutN _ (n :: r)).2.2.length ≤ _; omega
        have HLN : Hid (acc.length + 1 + rest.length ≤ l.length) := by show _ ≤ _; omega
        have HAT : Hid (at_.size ≤ 4000000) := by
          have e : (ruleOne n r).1 = at_ := by rw [Ho.out]
          rw [← e]
          unfold ruleOne
          split
          · exact HTOK.out.word
          · show 0 ≤ _; omega
        have Q2 : Hid (Q4 130 (wr.alloc (.cells #[.string ⟨#[]⟩, .slice none 0 0, .bool false, .slice none 0 0] 130)) wr.heap.size (.string ⟨#[]⟩) (.slice none 0 0) (.bool false) (.slice none 0 0)) := Q4.new _ _ _ _ _ _
        have X2 : Hid (Below wr.heap.size wr (wr.alloc (.cells #[.string ⟨#[]⟩, .slice none 0 0, .bool false, .slice none 0 0] 130))) := (Below.refl _ _).alloc (Nat.le_refl _) _
        go_upto_region 6 with fail
        generalize wr.alloc (.cells #[.string ⟨#[]⟩, .slice none 0 0, .bool false, .slice none 0 0] 130) = w2 at *
        obtain ⟨gt, Hgt⟩ : ∃ gt, Hid (wr.heap.size = gt) := ⟨_, hid rfl⟩
        have Q3 : Hid (Q4 130 w2 gt (.string ⟨#[]⟩) (.slice none 0 0) (.bool false) (.slice none 0 0)) := by rw [← Hgt.out]; exact Q2.out
        rw [Hgt.out]
        clear Q2
        have hs2 := X2.out.size
        go_wp2_with fail
        refine (readRule_q L B n r _ w2 (HR.out.now.belq X2.out (by omega)) (by omega)).mono ?_
        rw [Ho.out]
        rintro e w3 ⟨hv, bv, v2, rfl, hrv, hbh, hb3⟩
        obtain ⟨va, vc, rfl⟩ := hrv.head.form
        obtain ⟨bl, hbl, hbe⟩ := hrv.body
        obtain ⟨ka, kc, rfl⟩ := hbl.form
        obtain ⟨ba, bc, rfl⟩ := hbh.form
        have X3 : Hid (Below wr.heap.size wr w3) := X2.out.trans (hb3.mono hs2)
        have QQ3 : Hid (Q4 130 w3 gt (.string ⟨#[]⟩) (.slice none 0 0) (.bool false) (.slice none 0 0)) := Q3.out.below hb3
        have HA3 : Hid (Sl (Rg L B) w3 (.slice va hd.length vc) hd) := hrv.head
        have HB3 : Hid (Sl (Rg L B) w3 (.slice ba rest.length bc) rest) := hbh
        have HK3 : Hid (Sl (Rg L B) w3 (.slice ka bl.length kc) bl) := hbl
        have HBD : Hid (∀ b, bo = some b → bl = b) := hbe
        have hs3 := X3.out.size
        clear hrv hbl hbe hbh hb3 Q3 c0
        obtain ⟨hs, Hhs⟩ : ∃ hs, Hid (bo.isSome = hs) := ⟨_, hid rfl⟩
        rw [Hhs.out]
        have hlg := QQ3.out.lt
        have hgB : ∀ k, k < B → (set4 w3 gt (.string at_) (.slice va hd.length vc) (.bool hs) (.slice ka bl.length kc)).heap[k]? = w3.heap[k]? := fun k hk => set4_other w3 (by have := Hgt.out; omega) _ _ _ _
        have BW4 : Hid (Below w.heap.size w (set4 w3 gt (.string at_) (.slice va hd.length vc) (.bool hs) (.slice ka bl.length kc))) := set4_below (HR.out.below.trans (X3.out.mono hsr)) (by have := Hgt.out; omega) _ _ _ _
        have R4 : Hid ((set4 w3 gt (.string at_) (.slice va hd.length vc) (.bool hs) (.slice ka bl.length kc)).ownsRow w.heap.size 130 4 (.slice ua acc.length uc) acc.length cs) := own_keep HR.out.row fun k hk => by have := (HR.out.row.lt k hk).2; rw [set4_other w3 (by have := Hgt.out; omega)]; exact X3.out.block k this
        have CT4 : Hid (CatG CRule (Rg L B) (set4 w3 gt (.string at_) (.slice va hd.length vc) (.bool hs) (.slice ka bl.length kc)) acc cs) := HR.out.cat.keep CRule.fair (fun _ h => h) (fun k hk => by have hk' : k < B := hk.2; rw [hgB k hk']; exact X3.out.block k (by omega))
        have HA4 : Hid (Sl (Rg L B) (set4 w3 gt (.string at_) (.slice va hd.length vc) (.bool hs) (.slice ka bl.length kc)) (.slice va hd.length vc) hd) := HA3.out.keep (fun _ h => h) (fun k hk => hgB k hk.2)
        have HB4 : Hid (Sl (Rg L B) (set4 w3 gt (.string at_) (.slice va hd.length vc) (.bool hs) (.slice ka bl.length kc)) (.slice ba rest.length bc) rest) := HB3.out.keep (fun _ h => h) (fun k hk => hgB k hk.2)
        have HK4 : Hid (Sl (Rg L B) (set4 w3 gt (.string at_) (.slice va hd.length vc) (.bool hs) (.slice ka bl.length kc)) (.slice ka bl.length kc) bl) := HK3.out.keep (fun _ h => h) (fun k hk => hgB k hk.2)
        have Q5 : Hid (Q4 130 (set4 w3 gt (.string at_) (.slice va hd.length vc) (.bool hs) (.slice ka bl.length kc)) gt (.string at_) (.slice va hd.length vc) (.bool hs) (.slice ka bl.length kc)) := QQ3.out.put _ _ _ _
        have ATN : Hid (∀ rr : Rule, ruleMk (at_, hd, bo, rest) = [rr] → ∀ x, rr.at_ = some x → x ≠ nob) := fun rr h x hx => ruleMk_name h hx
        have z0 := QQ3.out.fz 0
        have z1 := QQ3.out.fz 1
        have z2 := QQ3.out.fz 2
        have z3 := QQ3.out.fz 3
        obtain ⟨q0, q1, q2, q3⟩ := QQ3.out.cs
        go_upto_region 7 with fail
        change Code.wp _ _ _ _ (set4 w3 gt (.string at_) (.slice va hd.length vc) (.bool hs) (.slice ka bl.length kc))
        have hs4 := BW4.out.size
        clear q0 q1 q2 q3 z0 z1 z2 z3 hgB HA3 HB3 HK3
        generalize set4 w3 gt (.string at_) (.slice va hd.length vc) (.bool hs) (.slice ka bl.length kc) = w4 at *
        obtain ⟨q0, q1, q2, q3⟩ := Q5.out.cs
        by_cases he : at_.toList = []
        · have HEN : Hid (at_ = nob) := by
            show at_ = nob
            have := bytes_lit at_ []
            rw [he] at this
            exact of_decide_eq_true this.symm
          cases hs
          · have HMK : Hid (ruleMk (at_, hd, bo, rest) = []) := by
              show _ = _
              unfold ruleMk
              rw [if_pos HEN.out]
              cases hb : bo with
              | none => rfl
              | some b => have := Hhs.out; rw [hb] at this; cases this
            have HC6 : Hid (RaIq L B sh w l (.slice ua acc.length uc) acc cs (.slice ba rest.length bc) rest w4) := ⟨R4.out, CT4.out, HB4.out, BW4.out, by rw [HEQ.out, HMK.out]; rfl, by have := HLN.out; omega⟩
            go_wp2_with fail
            go_roundg (gk - 1)
            case measure => omega
            case rel => exact ⟨_, _, acc, cs, rest, rfl, rfl, by omega, hal, HC6.out⟩
          · have HMK := ruleMk_some (hd := hd) (rest := rest) (at_ := at_) (.inl Hhs.out)
            obtain ⟨rr, Hrr, Hat, Hhd, Hbo⟩ := HMK
            have HRR : Hid (ruleMk (at_, hd, bo, rest) = [rr]) := Hrr
            have HO5 : Hid ((w4.alloc (.cells #[.string at_, .slice va hd.length vc, .bool true, .slice ka bl.length kc] 130)).ownsRow w.heap.size 130 4 (.slice ua acc.length uc) acc.length cs) := R4.out.alloc _
            go_wp2_with (at_builtin; go_must (refine wpList_append_own_at _ rfl _ _ 85 rfl w.heap.size 130 iT (.agg #[.string ⟨#[]⟩, .slice none 0 0, .bool false, .slice none 0 0]) 4 72 Tryz.underlying85 HI.out.1 HI.out.2.1 HI.out.2.2.1 HI.out.2.2.2 rfl (by omega) (.slice ua acc.length uc) acc.length cs rfl HO5.out ⟨w4.heap.size, 0, none⟩ 1 1 [.string at_, .slice va hd.length vc, .bool true, .slice ka bl.length kc] rfl rfl (new4 _ _ _ _ _ _) (by simp [Value.oneCell']) (by unfold maxLen; omega) (by omega) (by simp; omega) ?_))
            intro v6 w6 hown6 hgr6 _ hat6
            have hlo : ∀ rr, Value.ownBlock (.slice ua acc.length uc) = some rr → w.heap.size ≤ rr := fun rr hr => (HO5.out.lt rr hr).1
            have hb6 : Below w.heap.size w4 w6 := ((Below.refl _ _).alloc hs4 _).grown hgr6 (by simp; omega) hlo
            have HC6 : Hid (RaIq L B sh w l v6 (acc ++ [rr]) (cs ++ [.string at_, .slice va hd.length vc, .bool true, .slice ka bl.length kc]) (.slice ba rest.length bc) rest w6) := ⟨by rw [List.length_append]; exact hown6, CatG.snoc _ _ (CT4.out.keep CRule.fair (fun _ h => h) (fun k hk => hb6.block k (Nat.lt_of_lt_of_le hk.2 hB))) rr _ ⟨_, _, bl, by rw [Hat, Hbo, Hhs.out], by rw [Hhd]; exact HA4.out.belq hb6 hB, HK4.out.belq hb6 hB, fun b hb => HBD.out b (by rw [← Hbo]; exact hb), fun x hx => ⟨fun e => by rw [hx, e] at Hat; exact ATN.out rr HRR.out x hx e, by have := HAT.out; rw [hx] at Hat; simp at Hat; rw [Hat]; exact this⟩⟩, HB4.out.belq hb6 hB, BW4.out.trans hb6, by rw [HEQ.out, HRR.out, List.append_assoc], by have := HLN.out; simp; omega⟩
            have hl6 : (acc ++ [rr]).length ≤ 600 := by have := HC6.out.ln; omega
            clear hown6 hgr6 hat6 hlo hb6
            go_wp2_with fail
            go_roundg (gk - 1)
            case measure => omega
            case rel => exact ⟨_, _, acc ++ [rr], _, rest, rfl, rfl, by omega, hl6, HC6.out⟩
        · have HEN : Hid (at_ ≠ nob) := fun e => he (by rw [e, bytes_toList]; rfl)
          have hie : at_.toList.isEmpty = false := by cases hq : at_.toList with | nil => exact absurd hq he | cons _ _ => rfl
          have hib : (at_.toList == []) = false := by cases hq : at_.toList with | nil => exact absurd hq he | cons _ _ => rfl
          have hin : (at_.toList != []) = true := by rw [bne, hib]; rfl
          cases hs
          · have HMK := ruleMk_some (hd := hd) (rest := rest) (bo := bo) (.inr HEN.out)
            obtain ⟨rr, Hrr, Hat, Hhd, Hbo⟩ := HMK
            have HRR : Hid (ruleMk (at_, hd, bo, rest) = [rr]) := Hrr
            have HO5 : Hid ((w4.alloc (.cells #[.string at_, .slice va hd.length vc, .bool false, .slice ka bl.length kc] 130)).ownsRow w.heap.size 130 4 (.slice ua acc.length uc) acc.length cs) := R4.out.alloc _
            go_wp2_with (at_builtin; go_must (refine wpList_append_own_at _ rfl _ _ 85 rfl w.heap.size 130 iT (.agg #[.string ⟨#[]⟩, .slice none 0 0, .bool false, .slice none 0 0]) 4 72 Tryz.underlying85 HI.out.1 HI.out.2.1 HI.out.2.2.1 HI.out.2.2.2 rfl (by omega) (.slice ua acc.length uc) acc.length cs rfl HO5.out ⟨w4.heap.size, 0, none⟩ 1 1 [.string at_, .slice va hd.length vc, .bool false, .slice ka bl.length kc] rfl rfl (new4 _ _ _ _ _ _) (by simp [Value.oneCell']) (by unfold maxLen; omega) (by omega) (by simp; omega) ?_))
            intro v6 w6 hown6 hgr6 _ hat6
            have hlo : ∀ rr, Value.ownBlock (.slice ua acc.length uc) = some rr → w.heap.size ≤ rr := fun rr hr => (HO5.out.lt rr hr).1
            have hb6 : Below w.heap.size w4 w6 := ((Below.refl _ _).alloc hs4 _).grown hgr6 (by simp; omega) hlo
            have HC6 : Hid (RaIq L B sh w l v6 (acc ++ [rr]) (cs ++ [.string at_, .slice va hd.length vc, .bool false, .slice ka bl.length kc]) (.slice ba rest.length bc) rest w6) := ⟨by rw [List.length_append]; exact hown6, CatG.snoc _ _ (CT4.out.keep CRule.fair (fun _ h => h) (fun k hk => hb6.block k (Nat.lt_of_lt_of_le hk.2 hB))) rr _ ⟨_, _, bl, by rw [Hat, Hbo, Hhs.out], by rw [Hhd]; exact HA4.out.belq hb6 hB, HK4.out.belq hb6 hB, fun b hb => HBD.out b (by rw [← Hbo]; exact hb), fun x hx => ⟨fun e => by rw [hx, e] at Hat; exact ATN.out rr HRR.out x hx e, by have := HAT.out; rw [hx] at Hat; simp at Hat; rw [Hat]; exact this⟩⟩, HB4.out.belq hb6 hB, BW4.out.trans hb6, by rw [HEQ.out, HRR.out, List.append_assoc], by have := HLN.out; simp; omega⟩
            have hl6 : (acc ++ [rr]).length ≤ 600 := by have := HC6.out.ln; omega
            clear hown6 hgr6 hat6 hlo hb6
            go_wp2_with fail
            go_roundg (gk - 1)
            case measure => omega
            case rel => exact ⟨_, _, acc ++ [rr], _, rest, rfl, rfl, by omega, hl6, HC6.out⟩
          · have HMK := ruleMk_some (hd := hd) (rest := rest) (bo := bo) (.inr HEN.out)
            obtain ⟨rr, Hrr, Hat, Hhd, Hbo⟩ := HMK
            have HRR : Hid (ruleMk (at_, hd, bo, rest) = [rr]) := Hrr
            have HO5 : Hid ((w4.alloc (.cells #[.string at_, .slice va hd.length vc, .bool true, .slice ka bl.length kc] 130)).ownsRow w.heap.size 130 4 (.slice ua acc.length uc) acc.length cs) := R4.out.alloc _
            go_wp2_with (at_builtin; go_must (refine wpList_append_own_at _ rfl _ _ 85 rfl w.heap.size 130 iT (.agg #[.string ⟨#[]⟩, .slice none 0 0, .bool false, .slice none 0 0]) 4 72 Tryz.underlying85 HI.out.1 HI.out.2.1 HI.out.2.2.1 HI.out.2.2.2 rfl (by omega) (.slice ua acc.length uc) acc.length cs rfl HO5.out ⟨w4.heap.size, 0, none⟩ 1 1 [.string at_, .slice va hd.length vc, .bool true, .slice ka bl.length kc] rfl rfl (new4 _ _ _ _ _ _) (by simp [Value.oneCell']) (by unfold maxLen; omega) (by omega) (by simp; omega) ?_))
            intro v6 w6 hown6 hgr6 _ hat6
            have hlo : ∀ rr, Value.ownBlock (.slice ua acc.length uc) = some rr → w.heap.size ≤ rr := fun rr hr => (HO5.out.lt rr hr).1
            have hb6 : Below w.heap.size w4 w6 := ((Below.refl _ _).alloc hs4 _).grown hgr6 (by simp; omega) hlo
            have HC6 : Hid (RaIq L B sh w l v6 (acc ++ [rr]) (cs ++ [.string at_, .slice va hd.length vc, .bool true, .slice ka bl.length kc]) (.slice ba rest.length bc) rest w6) := ⟨by rw [List.length_append]; exact hown6, CatG.snoc _ _ (CT4.out.keep CRule.fair (fun _ h => h) (fun k hk => hb6.block k (Nat.lt_of_lt_of_le hk.2 hB))) rr _ ⟨_, _, bl, by rw [Hat, Hbo, Hhs.out], by rw [Hhd]; exact HA4.out.belq hb6 hB, HK4.out.belq hb6 hB, fun b hb => HBD.out b (by rw [← Hbo]; exact hb), fun x hx => ⟨fun e => by rw [hx, e] at Hat; exact ATN.out rr HRR.out x hx e, by have := HAT.out; rw [hx] at Hat; simp at Hat; rw [Hat]; exact this⟩⟩, HB4.out.belq hb6 hB, BW4.out.trans hb6, by rw [HEQ.out, HRR.out, List.append_assoc], by have := HLN.out; simp; omega⟩
            have hl6 : (acc ++ [rr]).length ≤ 600 := by have := HC6.out.ln; omega
            clear hown6 hgr6 hat6 hlo hb6
            go_wp2_with fail
            go_roundg (gk - 1)
            case measure => omega
            case rel => exact ⟨_, _, acc ++ [rr], _, rest, rfl, rfl, by omega, hl6, HC6.out⟩
      · have HC4 : Hid (RaIq L B sh w l (.slice ua acc.length uc) acc cs (.slice a1 r.length (cap' - 1)) r wr) := ⟨HR.out.row, HR.out.cat, HS1.out, HR.out.below, by rw [HR.out.eq, rules_pass Hz.out], by omega⟩
        go_wp2_with fail
        go_roundg (gk - 1)
        case measure => omega
        case rel => exact ⟨_, _, acc, cs, r, rfl, rfl, by omega, hal, HC4.out⟩
theorem rulesRead_q (L B : Nat) (l : List Nd) (v : Value) (w : World) (h : Sl (Rg L B) w v l) (hB : B ≤ w.heap.size) (hLw : L ≤ w.heap.size) :
    Calls Tryz.prog 69 #[v] w fun e w' => ∃ u, e = .returned u ∧ SG CRule 4 (Frm L w') w' u (rules true l) ∧ Below w.heap.size w w' := by
  obtain ⟨a, cap, rfl⟩ := h.form
  have B1 : Hid (Below w.heap.size w (w.alloc (.cells #[.int .i64 1, .int .i64 8, .int .i64 9] 3))) := (Below.refl _ _).alloc (Nat.le_refl _) _
  have S1 : Hid (Sl (Rg L B) (w.alloc (.cells #[.int .i64 1, .int .i64 8, .int .i64 9] 3)) (.slice a l.length cap) l) := h.belq B1.out hB
  have HZC : Hid (∀ j, j < 3 → (w.alloc (.cells #[.int .i64 1, .int .i64 8, .int .i64 9] 3)).cell? ⟨w.heap.size, 0 + j, none⟩ = some (.int .i64 (([1, 8, 9] : List Int).getD j 0))) := by
    intro j hj
    have hh : (w.alloc (.cells #[.int .i64 1, .int .i64 8, .int .i64 9] 3)).heap[w.heap.size]? = _ := heap_alloc_new w _
    unfold World.cell?
    rw [hh]
    rcases (show j = 0 ∨ j = 1 ∨ j = 2 by omega) with rfl | rfl | rfl <;> rfl
  clear h
  go_enter Tryz.func69, Tryz.ntmps69
  go_wp2_with fail
  have hlt1 : w.heap.size < (w.alloc (.cells #[.int .i64 1, .int .i64 8, .int .i64 9] 3)).heap.size := by simp
  generalize w.alloc (.cells #[.int .i64 1, .int .i64 8, .int .i64 9] 3) = w1 at *
  refine (readAll_q L B true l _ [1, 8, 9] _ w1 S1.out (by omega) (by simp) hlt1 HZC.out pass_sheet (by omega)).mono ?_
  rintro e w2 ⟨u, rfl, hsg, hb2⟩
  obtain ⟨ua, uc, rfl⟩ := hsg.form
  have B2 : Hid (Below w.heap.size w w2) := B1.out.trans (hb2.mono (by omega))
  have HSG : Hid (SG CRule 4 (Frm L w2) w2 (.slice ua (rules true l).length uc) (rules true l)) := hsg
  clear hsg hb2
  go_wp2_with fail
  go_ret
  exact ⟨_, rfl, HSG.out, B2.out⟩
end
end Go.Proofs.YtlliliddljkbfaaGreat
