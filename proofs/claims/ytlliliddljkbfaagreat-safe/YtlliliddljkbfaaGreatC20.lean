import Derived.Test.YtlliliddljkbfaaGreatC4
import Derived.Test.YtlliliddljkbfaaGreatC5
import Derived.Test.YtlliliddljkbfaaGreatC6
import Derived.Test.YtlliliddljkbfaaGreatC8
import Derived.Test.YtlliliddljkbfaaGreatC11
import Derived.Test.YtlliliddljkbfaaGreatC19
import Derived.Deep.DeepCutAuto
import Derived.Deep.Light
import Derived.Deep.RegionHeld3
namespace Go.Proofs.YtlliliddljkbfaaGreat
set_option maxHeartbeats 64000000
set_option maxRecDepth 100000
open Go.RowKit Sp
section
attribute [local go_sem] fld_tok fld_ins fld_kind fld_word
theorem Sl.cutu {S : Nat → Prop} {w : World} {a : Option Addr} {cap : Nat} {ns : List Nd} (h : Sl S w (.slice a ns.length cap) ns) (j : Nat) (hj : j ≤ ns.length) :
    (∀ W : World, (Instr.slice 128 (.slice a ns.length cap) none (some (.int .i64 (j : Int))) none).run Tryz.prog W = .ok (.slice a j cap) W) ∧ Sl S w (.slice a j cap) (ns.take j) := by
  have hc : ns.length ≤ cap := by obtain ⟨_, _, e, hc, _⟩ := h; cases e; exact hc.1
  refine ⟨fun W => ?_, h.init j hj⟩
  rw [run_slice_h (P := Tryz.prog) W 128 a ns.length cap Tryz.underlying128 .i64 j (by omega) (by omega)]
  obtain ⟨iT, h1, _, h3, _⟩ := info_vl
  have e : Tryz.prog.elem 128 = 199 := by kernel_rfl
  by_cases h0 : cap = 0
  · simp [sizeOf, typeInfo, e, h1, h3, sliced, Result.andThen, h0]
  · have h0' : ¬ 0 = cap := fun q => h0 q.symm
    simp [sizeOf, typeInfo, e, h1, h3, sliced, Result.andThen, h0]
    cases a <;> simp [Addr.add]
theorem Sl.rests {S : Nat → Prop} {w : World} {a : Option Addr} {cap : Nat} {ns : List Nd} (h : Sl S w (.slice a ns.length cap) ns) (i : Nat) (hi : i ≤ ns.length) :
    ∃ a' c', (∀ W : World, (Instr.slice 128 (.slice a ns.length cap) (some (.int .i64 (i : Int))) none none).run Tryz.prog W = .ok (.slice a' (ns.length - i) c') W) ∧ Sl S w (.slice a' (ns.length - i) c') (ns.drop i) := by
  obtain ⟨iT, h1, _, h3, _⟩ := info_vl
  refine ⟨if cap = i then a else a.map (·.add (i * 4)), cap - i, fun W => ?_, ?_⟩
  · rw [run_slice_l (P := Tryz.prog) W 128 a ns.length cap Tryz.underlying128 .i64 i (by omega) (by omega)]
    have e : Tryz.prog.elem 128 = 199 := by kernel_rfl
    simp [sizeOf, typeInfo, e, h1, h3, sliced, Result.andThen]
  · have := h.cut i ns.length hi (Nat.le_refl _)
    rw [List.take_of_length_le (Nat.le_refl _)] at this
    simpa [sliced] using this
theorem IsWord_c (t : Tok) (kv : Value) (x : ByteArray) (w : World) (hw : t.word.size ≤ 4000000) :
    Calls Tryz.prog 161 #[nodV t kv, .string x] w fun e w' => e = .returned (.bool (wordN (.mk t []) x)) ∧ Below w.heap.size w w' := by
  unfold nodV
  have B2 : Hid (Below w.heap.size w (w.alloc (.cells #[.int .i64 t.kind, .string t.word, .string t.unit, kv] 199))) := (Below.refl _ _).alloc (Nat.le_refl _) _
  cases h : (t.kind == 14)
  · have HV : Hid (wordN (.mk t []) x = false) := by show _ = _; simp at h; simp [wordN, h]
    go_enter Tryz.func161, Tryz.ntmps161
    go_wp2_with fail
    go_ret
    exact ⟨rbool HV.out.symm, B2.out⟩
  · have HV : Hid (wordN (.mk t []) x = ((small t.word).toList == x.toList)) := by show _ = _; rw [bytes_beq]; simp at h; simp [wordN, h]; rfl
    go_enter Tryz.func161, Tryz.ntmps161
    go_wp2_with fail
    have hs2 := B2.out.size
    refine (Small_c t.word _ hw).mono ?_
    rintro e w3 ⟨rfl, hb3⟩
    have B3 : Hid (Below w.heap.size w w3) := B2.out.trans (hb3.mono hs2)
    clear hb3
    go_wp2_with fail
    go_ret
    exact ⟨rbool HV.out.symm, B3.out⟩
def stopB (zs : List ByteArray) (n : Nd) : Bool := decide (n.t.kind = 15) && Lib.containsS zs n.t.word
theorem cutN_stop (st : Nd → Bool) : ∀ (l : List Nd) (i : Nat) (h : i < l.length), (∀ k (hk : k < i), st (l[k]'(by omega)) = false) → st l[i] = true → cutN st l = (l.take i, some l[i], l.drop (i + 1))
  | n :: r, 0, h, _, h2 => by unfold cutN; rw [if_pos (by simpa using h2)]; rfl
  | n :: r, i + 1, h, h1, h2 => by
    have h0 := h1 0 (by omega)
    simp at h0
    unfold cutN
    rw [if_neg (by rw [h0]; simp), cutN_stop st r i (by simpa using h) (fun k hk => by simpa using h1 (k + 1) (by omega)) (by simpa using h2)]
    rfl
theorem cutN_end (st : Nd → Bool) : ∀ (l : List Nd), (∀ k (hk : k < l.length), st l[k] = false) → cutN st l = (l, none, [])
  | [], _ => rfl
  | n :: r, h1 => by
    have h0 := h1 0 (by simp)
    simp at h0
    unfold cutN
    rw [if_neg (by rw [h0]; simp), cutN_end st r (fun k hk => show st r[k] = false from h1 (k + 1) (by simpa using hk))]
structure CutOK (B : Nat) (w : World) (c : List Nd × Option Nd × List Nd) (v1 sv v2 : Value) : Prop where
  ahead : Sl (fun b => b < B) w v1 c.1
  behind : Sl (fun b => b < B) w v2 c.2.2
  stop : match c.2.1 with | none => sv = nodV ⟨0, ⟨#[]⟩, ⟨#[]⟩⟩ (.slice none 0 0) | some n => ∃ kv, sv = nodV n.t kv ∧ Sl (fun b => b < B) w kv n.kids ∧ TokOK n.t
theorem Cut_c (B : Nat) (l : List Nd) (v : Value) (zs : List ByteArray) (sg : Nat) (w : World) (h : Sl (fun b => b < B) w v l) (hB : B ≤ w.heap.size) (hz : zs.length ≤ 10)
    (hsg : sg < w.heap.size) (hc : ∀ j, j < zs.length → w.cell? ⟨sg, 0 + j, none⟩ = some (.string (zs.getD j ByteArray.empty))) :
    Calls Tryz.prog 157 #[v, .slice (some ⟨sg, 0, none⟩) zs.length zs.length] w fun e w' => ∃ v1 sv v2, e = .returned (.tuple #[v1, sv, v2]) ∧ CutOK B w' (cutN (stopB zs) l) v1 sv v2 ∧ Below w.heap.size w w' := by
  have hl6 := h.len
  have HS : Hid (Sl (fun b => b < B) w v l) := h
  have HC : Hid (∀ j, j < zs.length → w.cell? ⟨sg, 0 + j, none⟩ = some (.string (zs.getD j ByteArray.empty))) := hc
  obtain ⟨a, cap, rfl⟩ := h.form
  clear h hc
  have Z0 : Hid (VB (w.alloc (.cells #[.int .i64 0, .string ⟨#[]⟩, .string ⟨#[]⟩, .slice none 0 0] 199)) w.heap.size (.int .i64 0) (.string ⟨#[]⟩) (.string ⟨#[]⟩) (.slice none 0 0)) := VB.new _ _ _ _ _
  have B0 : Hid (Below w.heap.size w (w.alloc (.cells #[.int .i64 0, .string ⟨#[]⟩, .string ⟨#[]⟩, .slice none 0 0] 199))) := (Below.refl _ _).alloc (Nat.le_refl _) _
  go_enter Tryz.func157, Tryz.ntmps157
  go_wp2_with fail
  have hsz0 := B0.out.size
  have hlt0 := Z0.out.lt
  generalize w.alloc (.cells #[.int .i64 0, .string ⟨#[]⟩, .string ⟨#[]⟩, .slice none 0 0] 199) = w0 at *
  obtain ⟨rb, Hrb⟩ : ∃ rb, Hid (w.heap.size = rb) := ⟨_, hid rfl⟩
  have hrb : w.heap.size = rb := Hrb.out
  have Z1 : Hid (VB w0 rb (.int .i64 0) (.string ⟨#[]⟩) (.string ⟨#[]⟩) (.slice none 0 0)) := by rw [← Hrb.out]; exact Z0.out
  rw [Hrb.out] at B0 hlt0 hsz0 hB hsg ⊢
  clear Z0 hrb
  go_loopg [11] l.length (fun gg v11 wr => ∃ i : Nat, v11 = .int .i64 (i : Int) ∧ i + gg = l.length ∧ Aside (Below w0.heap.size w0 wr ∧ ∀ k (hk : k < l.length), k < i → stopB zs l[k] = false))
  case atStart => exact ⟨0, rfl, by omega, Below.refl _ _, fun k hk h => by omega⟩
  case round =>
    obtain ⟨i, rfl, hi, hA⟩ := hrel
    have BR : Hid (Below w0.heap.size w0 wr) := hA.out.1
    have HN : Hid (∀ k (hk : k < l.length), k < i → stopB zs l[k] = false) := hA.out.2
    clear hA
    have hsr := BR.out.size
    have BW : Hid (Below rb w wr) := B0.out.trans (BR.out.mono hsz0)
    by_cases hlt : i < l.length
    · have h1 : (i : Int) < (l.length : Int) := by omega
      have S1 := HS.out.below BW.out hB
      obtain ⟨g, o, rfl, hL, hcap⟩ := S1.here (by rintro rfl; simp at hlt)
      obtain ⟨kv, hN⟩ := hL.node (i := i) hlt
      obtain ⟨n, hn⟩ : ∃ n, n = l[i] := ⟨_, rfl⟩
      rw [← hn] at hN
      have Hn : Hid (n = l[i]) := hn
      have HTOK : Hid (TokOK n.t) := hN.ok
      have HKV : Hid (Sl (fun b => b < B) wr kv n.kids) := hN.k
      obtain ⟨ka, kc, rfl⟩ := hN.k.form
      have d0 := hN.c0
      have d1 := hN.c1
      have d2 := hN.c2
      have d3 := hN.c3
      have hgB : g < B := hN.s
      clear hN hL S1 hn
      have A2 : Hid (VB (wr.alloc (.cells #[.int .i64 n.t.kind, .string n.t.word, .string n.t.unit, .slice ka n.kids.length kc] 199)) wr.heap.size (.int .i64 n.t.kind) (.string n.t.word) (.string n.t.unit) (.slice ka n.kids.length kc)) := VB.new _ _ _ _ _
      have X2 : Hid (Below wr.heap.size wr (wr.alloc (.cells #[.int .i64 n.t.kind, .string n.t.word, .string n.t.unit, .slice ka n.kids.length kc] 199))) := (Below.refl _ _).alloc (Nat.le_refl _) _
      go_upto_region 4 with fail
      generalize wr.alloc (.cells #[.int .i64 n.t.kind, .string n.t.word, .string n.t.unit, .slice ka n.kids.length kc] 199) = w2 at *
      obtain ⟨gt, Hgt⟩ : ∃ gt, Hid (wr.heap.size = gt) := ⟨_, hid rfl⟩
      have A3 : Hid (VB w2 gt (.int .i64 n.t.kind) (.string n.t.word) (.string n.t.unit) (.slice ka n.kids.length kc)) := by rw [← Hgt.out]; exact A2
      rw [Hgt.out]
      clear A2 d0 d1 d2 d3
      obtain ⟨a0, a1, a2, a3⟩ := A3.out.cs
      have B2 : Hid (Below w0.heap.size w0 w2) := BR.out.trans (X2.out.mono hsr)
      have BW2 : Hid (Below rb w w2) := B0.out.trans (B2.out.mono hsz0)
      have hs2 := B2.out.size
      have HZC : ∀ j, j < zs.length → w2.cell? ⟨sg, 0 + j, none⟩ = some (.string (zs.getD j ByteArray.empty)) := fun j hj => by rw [BW2.out.cell (p := ⟨sg, _, none⟩) hsg]; exact HC.out j hj
      have HCT := Tryz.slices_Contains_string sg 0 zs.length zs.length zs n.t.word w2 (Nat.le_refl _) (by omega) HZC
      rw [List.take_of_length_le (Nat.le_refl _)] at HCT
      obtain ⟨z, Hz⟩ : ∃ z, Hid (Lib.containsS zs n.t.word = z) := ⟨_, hid rfl⟩
      rw [Hz.out] at HCT
      have HCT' : Hid (Calls Tryz.prog 188 #[.slice (some ⟨sg, 0, none⟩) zs.length zs.length, .string n.t.word] w2 fun e w' => e = .returned (.bool z) ∧ w' = w2) := HCT
      clear HCT HZC
      cases hk : (n.t.kind == 15)
      · have HST : Hid (stopB zs n = false) := by show (decide (n.t.kind = 15) && _) = false; rw [show decide (n.t.kind = 15) = false from by simpa using hk]; rfl
        have HN2 : Hid (∀ k (hk : k < l.length), k < i + 1 → stopB zs l[k] = false) := fun k hk hki => by
          by_cases e : k = i
          · subst e; rw [← Hn.out]; exact HST.out
          · exact HN.out k hk (by omega)
        go_wp2_with fail
        go_roundg (gk - 1)
        case measure => omega
        case rel => exact ⟨i + 1, by congr 1, by omega, B2.out, HN2.out⟩
      · have hkd : decide (n.t.kind = 15) = true := by simpa using hk
        go_wp2_with fail
        refine HCT'.out.mono ?_
        rintro e wq ⟨rfl, hwq⟩
        rw [hwq]
        clear hwq
        cases z
        · have HST : Hid (stopB zs n = false) := by show (decide (n.t.kind = 15) && _) = false; rw [Hz.out]; exact Bool.and_false _
          have HN2 : Hid (∀ k (hk : k < l.length), k < i + 1 → stopB zs l[k] = false) := fun k hk hki => by
            by_cases e : k = i
            · subst e; rw [← Hn.out]; exact HST.out
            · exact HN.out k hk (by omega)
          go_wp2_with fail
          go_roundg (gk - 1)
          case measure => omega
          case rel => exact ⟨i + 1, by congr 1, by omega, B2.out, HN2.out⟩
        · have HST : Hid (stopB zs n = true) := by show (decide (n.t.kind = 15) && _) = true; rw [Hz.out, hkd]; rfl
          have HV : Hid (cutN (stopB zs) l = (l.take i, some n, l.drop (i + 1))) := by
            show _ = _
            have hst : stopB zs l[i] = true := by rw [← Hn.out]; exact HST.out
            rw [Hn.out]
            exact cutN_stop _ l i hlt (fun k hk => HN.out k (by omega) hk) hst
          have S2 := HS.out.below BW2.out hB
          obtain ⟨hr1, hS1⟩ := S2.cutu i (by omega)
          obtain ⟨ra, rc, hr2, hS2⟩ := S2.rests (i + 1) (by omega)
          rw [show (((i + 1 : Nat)) : Int) = (i : Int) + 1 by omega] at hr2
          have HS1 : Hid (Sl (fun b => b < B) w2 (.slice (some ⟨g, o, none⟩) i cap) (l.take i)) := hS1
          have HS2 : Hid (Sl (fun b => b < B) w2 (.slice ra (l.length - (i + 1)) rc) (l.drop (i + 1))) := hS2
          have HK2 : Hid (Sl (fun b => b < B) w2 (.slice ka n.kids.length kc) n.kids) := HKV.out.below X2.out (by omega)
          clear hS1 hS2 S2 hkd
          have hwi : IntKind.i64.wrap ((i : Int) + 1) = (i : Int) + 1 := by rw [IntKind.wrap_i64]; omega
          have Z2 : Hid (VB w2 rb (.int .i64 0) (.string ⟨#[]⟩) (.string ⟨#[]⟩) (.slice none 0 0)) := by show _ = _; rw [B2.out.block rb hlt0]; exact Z1.out
          have z0 := Z2.out.fz 0
          have z1 := Z2.out.fz 1
          have z2 := Z2.out.fz 2
          have z3 := Z2.out.fz 3
          obtain ⟨q0, q1, q2, q3⟩ := Z2.out.cs
          have hne : gt ≠ rb := by have := Hgt.out; omega
          go_wp2_with fail
          refine wp_region_any (by kernel_rfl) ?_
          change wpAny _ _ _ _ _ _ _ (World.drew _)
          have AD : Hid (VB w2.drew gt (.int .i64 n.t.kind) (.string n.t.word) (.string n.t.unit) (.slice ka n.kids.length kc)) := A3.out
          have A9 : Hid (VB (set4 w2.drew rb (.int .i64 n.t.kind) (.string n.t.word) (.string n.t.unit) (.slice ka n.kids.length kc)) gt (.int .i64 n.t.kind) (.string n.t.word) (.string n.t.unit) (.slice ka n.kids.length kc)) := by show _ = _; rw [set4_other w2.drew hne]; exact A3.out
          have BD : Hid (Below rb w w2.drew) := BW2.out.drew
          refine wpAny_of_held (S := fun wx => VB wx gt (.int .i64 n.t.kind) (.string n.t.word) (.string n.t.unit) (.slice ka n.kids.length kc)) _ _ _ _ ?_
          clear a0 a1 a2 a3
          refine tkH 0 rfl AD.out (by intro w hSw; obtain ⟨a0, a1, a2, a3⟩ := hSw.cs; go_simp; all_goals with_reducible rfl) ?_
          refine tkH 1 rfl AD.out (by intro w hSw; obtain ⟨a0, a1, a2, a3⟩ := hSw.cs; go_simp; all_goals with_reducible rfl) ?_
          refine tkH 2 rfl AD.out (by intro w hSw; obtain ⟨a0, a1, a2, a3⟩ := hSw.cs; go_simp; all_goals with_reducible rfl) ?_
          refine tkH 3 rfl AD.out (by intro w hSw; obtain ⟨a0, a1, a2, a3⟩ := hSw.cs; go_simp; all_goals with_reducible rfl) ?_
          refine tkH 4 rfl AD.out (by intro w hSw; obtain ⟨a0, a1, a2, a3⟩ := hSw.cs; go_simp; all_goals with_reducible rfl) ?_
          refine tkH 5 rfl AD.out (by intro w hSw; obtain ⟨a0, a1, a2, a3⟩ := hSw.cs; go_simp; all_goals with_reducible rfl) ?_
          refine tkH 6 rfl AD.out (by intro w hSw; obtain ⟨a0, a1, a2, a3⟩ := hSw.cs; go_simp; all_goals with_reducible rfl) ?_
          refine tkH 7 rfl AD.out (by intro w hSw; obtain ⟨a0, a1, a2, a3⟩ := hSw.cs; go_simp; all_goals with_reducible rfl) ?_
          refine brH 8 fun K hK => ?_
          go_simp
          refine hK.out _ _ (AD.out) (fun _ => ?_); clear hK K
          refine brH 9 fun K hK => ?_
          go_simp
          refine hK.out _ _ (A9.out) (fun _ => ?_); clear hK K
          refine brH 10 fun K hK => ?_
          go_simp
          refine hK.out _ _ (A9.out) (fun _ => ?_); clear hK K
          refine wpAnyH_done (by kernel_rfl) ?_ _
          go_wp2_with fail
          refine bodyPost_ret (v := .tuple #[.slice (some ⟨g, o, none⟩) i cap, nodV n.t (.slice ka n.kids.length kc), .slice ra (l.length - (i + 1)) rc]) (by simp [results, Tryz.results157, go_sem, nodV, q0, q1, q2, q3]) rfl ?_
          have hst : ∀ k, k < B → (set4 w2.drew rb (.int .i64 n.t.kind) (.string n.t.word) (.string n.t.unit) (.slice ka n.kids.length kc)).heap[k]? = w2.heap[k]? := fun k hk => set4_other w2.drew (by omega) _ _ _ _
          exact ⟨_, _, _, rfl, by rw [HV.out]; exact ⟨HS1.out.keep (fun _ hg => hg) hst, HS2.out.keep (fun _ hg => hg) hst, ⟨_, rfl, HK2.out.keep (fun _ hg => hg) hst, HTOK.out⟩⟩, by rw [Hrb.out]; exact set4_below BD.out (Nat.le_refl _) _ _ _ _⟩
    · have h1 : (l.length : Int) ≤ (i : Int) := by omega
      have HV : Hid (cutN (stopB zs) l = (l, none, [])) := cutN_end _ l fun k hk => HN.out k hk (by omega)
      have Z2 : Hid (VB wr rb (.int .i64 0) (.string ⟨#[]⟩) (.string ⟨#[]⟩) (.slice none 0 0)) := by show _ = _; rw [BR.out.block rb hlt0]; exact Z1.out
      have z0 := Z2.out.fz 0
      have z1 := Z2.out.fz 1
      have z2 := Z2.out.fz 2
      have z3 := Z2.out.fz 3
      obtain ⟨q0, q1, q2, q3⟩ := Z2.out.cs
      go_wp2_with fail
      refine bodyPost_ret (v := .tuple #[.slice a l.length cap, nodV ⟨0, ⟨#[]⟩, ⟨#[]⟩⟩ (.slice none 0 0), .slice none 0 0]) (by simp [results, Tryz.results157, go_sem, nodV, q0, q1, q2, q3]) rfl ?_
      exact ⟨_, _, _, rfl, by rw [HV.out]; exact ⟨(HS.out.below BW.out hB).keep (fun _ hg => hg) (fun k hk => set4_other wr (by have hk' : k < B := hk; omega) _ _ _ _), Sl.nil _ _, rfl⟩, by rw [Hrb.out]; exact set4_below BW.out (Nat.le_refl _) _ _ _ _⟩
end
section
attribute [local go_sem] fld_tok fld_ins fld_kind fld_word
def Q4 (T : TypeId) (w : World) (b : Nat) (x0 x1 x2 x3 : Value) : Prop := w.heap[b]? = some (.cells #[x0, x1, x2, x3] T (0, 0))
section
variable {T : TypeId} {w w' : World} {b : Nat} {x0 x1 x2 x3 : Value}
theorem Q4.lt (h : Q4 T w b x0 x1 x2 x3) : b < w.heap.size := (Array.getElem?_eq_some_iff.1 h).1
theorem Q4.cs (h : Q4 T w b x0 x1 x2 x3) : w.cell? ⟨b, 0, none⟩ = some x0 ∧ w.cell? ⟨b, 1, none⟩ = some x1 ∧ w.cell? ⟨b, 2, none⟩ = some x2 ∧ w.cell? ⟨b, 3, none⟩ = some x3 := by
  have h' : w.heap[b]? = _ := h
  refine ⟨?_, ?_, ?_, ?_⟩ <;> (unfold World.cell?; rw [h']; rfl)
theorem Q4.fz (h : Q4 T w b x0 x1 x2 x3) (o : Nat) : w.frozen? ⟨b, o, none⟩ = false := by
  have h' : w.heap[b]? = _ := h
  unfold World.frozen?; rw [h']; simp
theorem Q4.below (h : Q4 T w b x0 x1 x2 x3) (hb : Below w.heap.size w w') : Q4 T w' b x0 x1 x2 x3 := by
  show _ = _; rw [hb.block b h.lt]; exact h
theorem Q4.alloc (h : Q4 T w b x0 x1 x2 x3) (o : Obj) : Q4 T (w.alloc o) b x0 x1 x2 x3 := h.below ((Below.refl _ _).alloc (Nat.le_refl _) _)
theorem Q4.new (T : TypeId) (w : World) (x0 x1 x2 x3 : Value) : Q4 T (w.alloc (.cells #[x0, x1, x2, x3] T)) w.heap.size x0 x1 x2 x3 := heap_alloc_new w _
end
theorem has_lit (zs : List ByteArray) (x : ByteArray) : Lib.containsS zs x = zs.any (fun z => decide (x = z)) := by
  rw [Bool.eq_iff_iff, Lib.containsS_iff, List.any_eq_true]
  constructor
  · intro h; exact ⟨x, h, by simp⟩
  · rintro ⟨z, h1, h2⟩
    rw [decide_eq_true_eq] at h2
    rw [h2]; exact h1
theorem stop2 (n : Nd) : stopB [⟨#[59]⟩, ⟨#[123]⟩] n = (isSemi n || isBody n) := by
  unfold stopB isSemi isBody sgnN signT b1
  rw [has_lit]
  cases decide (n.t.kind = 15)
  · rfl
  · by_cases h1 : n.t.word = ⟨#[59]⟩ <;> by_cases h2 : n.t.word = ⟨#[123]⟩ <;> simp [h1, h2]
theorem stop1 (n : Nd) : stopB [⟨#[123]⟩] n = isBody n := by
  unfold stopB isBody sgnN signT b1
  rw [has_lit]
  cases decide (n.t.kind = 15)
  · rfl
  · by_cases h2 : n.t.word = ⟨#[123]⟩ <;> simp [h2]
theorem stopS (n : Nd) : stopB [⟨#[59]⟩] n = isSemi n := by
  unfold stopB isSemi sgnN signT b1
  rw [has_lit]
  cases decide (n.t.kind = 15)
  · rfl
  · by_cases h2 : n.t.word = ⟨#[59]⟩ <;> simp [h2]
theorem CutOK.val {B : Nat} {w : World} {c : List Nd × Option Nd × List Nd} {v1 sv v2 : Value} (h : CutOK B w c v1 sv v2) : ∃ (t : Tok) (ka : Option Addr) (ks : List Nd) (kc : Nat), sv = nodV t (.slice ka ks.length kc) ∧ Sl (fun b => b < B) w (.slice ka ks.length kc) ks ∧ (bodyOf c.2.1).isSome = signT t (b1 123) ∧ ∀ b, bodyOf c.2.1 = some b → ks = b := by
  have h3 := h.stop
  cases hc : c.2.1 with
  | none =>
    rw [hc] at h3
    exact ⟨_, none, [], 0, h3, Sl.nil _ _, rfl, fun b hb => by cases hb⟩
  | some n =>
    rw [hc] at h3
    obtain ⟨kv, rfl, hk, _⟩ := h3
    obtain ⟨ka, kc, rfl⟩ := hk.form
    refine ⟨n.t, ka, n.kids, kc, rfl, hk, ?_, fun b hb => ?_⟩
    · show (if isBody n = true then some n.kids else none).isSome = sgnN n (b1 123)
      show (if sgnN n (b1 123) = true then some n.kids else none).isSome = sgnN n (b1 123)
      cases sgnN n (b1 123) <;> rfl
    · unfold bodyOf at hb
      simp only at hb
      split at hb
      · cases hb; rfl
      · cases hb
structure RuleV (B : Nat) (w : World) (hd : List Nd) (bo : Option (List Nd)) (hv bv : Value) : Prop where
  head : Sl (fun b => b < B) w hv hd
  body : ∃ bl, Sl (fun b => b < B) w bv bl ∧ ∀ b, bo = some b → bl = b
theorem readAt_c (B : Nat) (n : Nd) (r : List Nd) (v : Value) (w : World) (h : Sl (fun b => b < B) w v (n :: r)) (hB : B ≤ w.heap.size) :
    Calls Tryz.prog 156 #[v] w fun e w' => ∃ hv bv v2, e = .returned (.tuple #[.agg #[.string n.t.word, hv, .bool (bodyOf (cutN (fun m => isSemi m || isBody m) r).2.1).isSome, bv], v2]) ∧
      RuleV B w' (cutN (fun m => isSemi m || isBody m) r).1 (bodyOf (cutN (fun m => isSemi m || isBody m) r).2.1) hv bv ∧ Sl (fun b => b < B) w' v2 (cutN (fun m => isSemi m || isBody m) r).2.2 ∧ Below w.heap.size w w' := by
  have Hstop : Hid (stopB [⟨#[59]⟩, ⟨#[123]⟩] = fun m => isSemi m || isBody m) := funext stop2
  obtain ⟨c, Hc⟩ : ∃ c, Hid (cutN (fun m => isSemi m || isBody m) r = c) := ⟨_, hid rfl⟩
  rw [Hc.out]
  obtain ⟨g, o, nv, cap, rfl, hN, hcap⟩ := h.head
  obtain ⟨a', hr1, hS1⟩ := h.cut1v
  have HS1 : Hid (Sl (fun b => b < B) w (.slice a' r.length (cap - 1)) r) := hS1
  have hgB : g < B := hN.s
  have HNC : Hid (∀ wx, Below w.heap.size w wx → wx.cell? ⟨g, o + 1, none⟩ = some (.string n.t.word)) := fun wx hb => by rw [hb.cell (p := ⟨g, _, none⟩) (show g < w.heap.size by omega)]; exact hN.c1
  have hl6 := h.len
  clear h hS1 hN
  have R0 : Hid (Q4 130 (w.alloc (.cells #[.string ⟨#[]⟩, .slice none 0 0, .bool false, .slice none 0 0] 130)) w.heap.size (.string ⟨#[]⟩) (.slice none 0 0) (.bool false) (.slice none 0 0)) := Q4.new _ _ _ _ _ _
  have B0 : Hid (Below w.heap.size w (w.alloc (.cells #[.string ⟨#[]⟩, .slice none 0 0, .bool false, .slice none 0 0] 130))) := (Below.refl _ _).alloc (Nat.le_refl _) _
  go_enter Tryz.func156, Tryz.ntmps156
  go_upto_region 1 with fail
  have hsz0 := B0.out.size
  have hlt0 := R0.out.lt
  generalize w.alloc (.cells #[.string ⟨#[]⟩, .slice none 0 0, .bool false, .slice none 0 0] 130) = w0 at *
  obtain ⟨rb, Hrb⟩ : ∃ rb, Hid (w.heap.size = rb) := ⟨_, hid rfl⟩
  rw [Hrb.out] at B0 R0 hB hlt0 hsz0 HNC ⊢
  have S0 : Hid (Sl (fun b => b < B) w0 (.slice a' r.length (cap - 1)) r) := HS1.out.below B0.out hB
  clear HS1
  have B1 : Hid (Below w0.heap.size w0 (w0.alloc (.cells #[.string ⟨#[59]⟩, .string ⟨#[123]⟩] 9))) := (Below.refl _ _).alloc (Nat.le_refl _) _
  have HZC : Hid (∀ j, j < 2 → (w0.alloc (.cells #[.string ⟨#[59]⟩, .string ⟨#[123]⟩] 9)).cell? ⟨w0.heap.size, 0 + j, none⟩ = some (.string ([(⟨#[59]⟩ : ByteArray), ⟨#[123]⟩].getD j ByteArray.empty))) := by
    intro j hj
    have hh : (w0.alloc (.cells #[.string ⟨#[59]⟩, .string ⟨#[123]⟩] 9)).heap[w0.heap.size]? = _ := heap_alloc_new w0 _
    unfold World.cell?
    rw [hh]
    rcases (show j = 0 ∨ j = 1 by omega) with rfl | rfl <;> rfl
  go_wp2_with fail
  have hs1 := B1.out.size
  have hlt1 : w0.heap.size < (w0.alloc (.cells #[.string ⟨#[59]⟩, .string ⟨#[123]⟩] 9)).heap.size := by simp
  generalize w0.alloc (.cells #[.string ⟨#[59]⟩, .string ⟨#[123]⟩] 9) = w1 at *
  refine (Cut_c B r _ [⟨#[59]⟩, ⟨#[123]⟩] _ w1 (S0.out.below B1.out (by omega)) (by omega) (by simp) hlt1 HZC.out).mono ?_
  rw [Hstop.out, Hc.out]
  rintro e w2 ⟨v1, sv, v2, rfl, hcut, hb2⟩
  obtain ⟨t, ka, ks, kc, rfl, hks, hsome, hbody⟩ := hcut.val
  obtain ⟨va, vc, rfl⟩ := hcut.ahead.form
  obtain ⟨ba, bc, rfl⟩ := hcut.behind.form
  have B2 : Hid (Below w0.heap.size w0 w2) := B1.out.trans (hb2.mono hs1)
  have BW2 : Hid (Below rb w w2) := B0.out.trans (B2.out.mono hsz0)
  have HA : Hid (Sl (fun b => b < B) w2 (.slice va c.1.length vc) c.1) := hcut.ahead
  have HBH : Hid (Sl (fun b => b < B) w2 (.slice ba c.2.2.length bc) c.2.2) := hcut.behind
  have HKS : Hid (Sl (fun b => b < B) w2 (.slice ka ks.length kc) ks) := hks
  have HSM : Hid ((bodyOf c.2.1).isSome = signT t (b1 123)) := hsome
  have HBD : Hid (∀ b, bodyOf c.2.1 = some b → ks = b) := hbody
  have R2 : Hid (Q4 130 w2 rb (.string ⟨#[]⟩) (.slice none 0 0) (.bool false) (.slice none 0 0)) := by show _ = _; rw [B2.out.block rb hlt0]; exact R0.out
  have hs2 := B2.out.size
  clear hcut hks hsome hbody hb2 S0 HZC hlt1 B1
  unfold nodV
  have A3 : Hid (VB (w2.alloc (.cells #[.int .i64 t.kind, .string t.word, .string t.unit, .slice ka ks.length kc] 199)).drew w2.heap.size (.int .i64 t.kind) (.string t.word) (.string t.unit) (.slice ka ks.length kc)) := VB.new _ _ _ _ _
  have X3 : Hid (Below w2.heap.size w2 (w2.alloc (.cells #[.int .i64 t.kind, .string t.word, .string t.unit, .slice ka ks.length kc] 199)).drew) := ((Below.refl _ _).alloc (Nat.le_refl _) _).drew
  go_wp2_with fail
  refine wp_region_any (by kernel_rfl) ?_
  change wpAny _ _ _ _ _ _ _ (World.drew _)
  generalize (w2.alloc (.cells #[.int .i64 t.kind, .string t.word, .string t.unit, .slice ka ks.length kc] 199)).drew = w3 at *
  obtain ⟨gt, Hgt⟩ : ∃ gt, Hid (w2.heap.size = gt) := ⟨_, hid rfl⟩
  have A4 : Hid (VB w3 gt (.int .i64 t.kind) (.string t.word) (.string t.unit) (.slice ka ks.length kc)) := by rw [← Hgt.out]; exact A3.out
  rw [Hgt.out]
  have BW3 : Hid (Below rb w w3) := BW2.out.trans (X3.out.mono (by omega))
  have R3 : Hid (Q4 130 w3 rb (.string ⟨#[]⟩) (.slice none 0 0) (.bool false) (.slice none 0 0)) := R2.out.below X3.out
  have HS3 : Below rb w w3 ∧ VB w3 gt (.int .i64 t.kind) (.string t.word) (.string t.unit) (.slice ka ks.length kc) := ⟨BW3.out, A4.out⟩
  have HH3 : Hid (Below rb w w3 ∧ VB w3 gt (.int .i64 t.kind) (.string t.word) (.string t.unit) (.slice ka ks.length kc)) := HS3
  clear HS3 A3
  obtain ⟨sb, Hsb⟩ : ∃ sb, Hid (signT t (b1 123) = sb) := ⟨_, hid rfl⟩
  rw [Hsb.out] at HSM
  refine wpAny_of_held (S := fun wx => Below rb w wx ∧ VB wx gt (.int .i64 t.kind) (.string t.word) (.string t.unit) (.slice ka ks.length kc)) _ _ _ _ ?_
  refine tkH 0 rfl HH3.out (by intro w hSw; skip; go_simp; all_goals with_reducible rfl) ?_
  refine tkH 1 rfl HH3.out (by intro w hSw; skip; go_simp; all_goals with_reducible rfl) ?_
  refine tkH 2 rfl HH3.out (by intro w hSw; skip; go_simp; all_goals with_reducible rfl) ?_
  refine tkH 3 rfl HH3.out (by intro w hSw; skip; go_simp; all_goals with_reducible rfl) ?_
  refine tkH 4 rfl HH3.out (by intro w hSw; have q1 := HNC.out w hSw.1; go_simp; all_goals with_reducible rfl) ?_
  refine tkH 5 rfl HH3.out (by intro w hSw; skip; go_simp; all_goals with_reducible rfl) ?_
  refine tkH 6 rfl HH3.out (by intro w hSw; obtain ⟨a0, a1, a2, a3⟩ := hSw.2.cs; go_simp; all_goals with_reducible rfl) ?_
  refine tkH 8 rfl HH3.out (by intro w hSw; obtain ⟨a0, a1, a2, a3⟩ := hSw.2.cs; go_simp; all_goals with_reducible rfl) ?_
  refine tkH 9 rfl HH3.out (by intro w hSw; obtain ⟨a0, a1, a2, a3⟩ := hSw.2.cs; go_simp; all_goals with_reducible rfl) ?_
  refine tkH 11 rfl HH3.out (by intro w hSw; skip; go_simp; all_goals with_reducible rfl) ?_
  refine brH 7 fun K hK => ?_
  go_simp
  refine (IsSign_c t _ (b1 123) _).mono ?_
  rw [Hsb.out]
  rintro e w4 ⟨rfl, hb4⟩
  have X4 : Hid (Below w2.heap.size w2 w4) := X3.out.trans (hb4.mono X3.out.size)
  have BW4 : Hid (Below rb w w4) := BW2.out.trans (X4.out.mono (by omega))
  have HH4 : Hid (Below rb w w4 ∧ VB w4 gt (.int .i64 t.kind) (.string t.word) (.string t.unit) (.slice ka ks.length kc)) := ⟨BW4.out, A4.out.below hb4⟩
  have R4 : Hid (Q4 130 w4 rb (.string ⟨#[]⟩) (.slice none 0 0) (.bool false) (.slice none 0 0)) := R3.out.below hb4
  clear hb4 R3 R2
  refine hK.out _ _ HH4.out (fun _ => ?_)
  clear hK K
  refine tkH 10 rfl HH4.out (by intro w hSw; skip; go_simp; all_goals with_reducible rfl) ?_
  have z0 := R4.out.fz 0
  have z1 := R4.out.fz 1
  have z2 := R4.out.fz 2
  have z3 := R4.out.fz 3
  obtain ⟨q0, q1, q2, q3⟩ := R4.out.cs
  have hne : gt ≠ rb := by have := Hgt.out; omega
  have HH5 : Hid (Below rb w (set4 w4 rb (.string n.t.word) (.slice va c.1.length vc) (.bool sb) (.slice ka ks.length kc)) ∧ VB (set4 w4 rb (.string n.t.word) (.slice va c.1.length vc) (.bool sb) (.slice ka ks.length kc)) gt (.int .i64 t.kind) (.string t.word) (.string t.unit) (.slice ka ks.length kc)) := ⟨set4_below BW4.out (Nat.le_refl _) _ _ _ _, by show _ = _; rw [set4_other w4 hne]; exact HH4.out.2⟩
  refine brH 12 fun K hK => ?_
  go_simp
  refine hK.out _ _ (HH5.out) (fun _ => ?_); clear hK K
  refine brH 13 fun K hK => ?_
  go_simp
  refine hK.out _ _ (HH5.out) (fun _ => ?_); clear hK K
  refine wpAnyH_done (by kernel_rfl) ?_ _
  go_wp2_with fail
  refine bodyPost_ret (v := .tuple #[.agg #[.string n.t.word, .slice va c.1.length vc, .bool sb, .slice ka ks.length kc], .slice ba c.2.2.length bc]) (by simp [results, Tryz.results156, go_sem, q0, q1, q2, q3]) rfl ?_
  have hst : ∀ k, k < B → (set4 w4 rb (.string n.t.word) (.slice va c.1.length vc) (.bool sb) (.slice ka ks.length kc)).heap[k]? = w2.heap[k]? := fun k hk => by rw [set4_other w4 (by omega)]; exact X4.out.block k (by omega)
  exact ⟨_, _, _, by rw [HSM.out], ⟨HA.out.keep (fun _ hg => hg) hst, ks, HKS.out.keep (fun _ hg => hg) hst, HBD.out⟩, HBH.out.keep (fun _ hg => hg) hst, by rw [Hrb.out]; exact HH5.out.1⟩
end
end Go.Proofs.YtlliliddljkbfaaGreat
