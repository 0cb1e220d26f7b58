import Derived.Test.YtlliliddljkbfaaGreatC1
import Derived.Test.YtlliliddljkbfaaGreatC4
import Derived.Deep.DeepCutAuto
import Derived.Deep.Light
import Derived.Test.YtlliliddljkbfaaGreatRows
import Derived.WalkKit
import Derived.WalkSpells
import Derived.WalkLawsBesides
import Derived.Laws.IdiomStrings
import Derived.Deep.AppendSrc
import Derived.Deep.LoopGhost
namespace Go.Proofs.YtlliliddljkbfaaGreat
set_option maxHeartbeats 64000000
set_option maxRecDepth 100000
open Go.RowKit Sp
section
theorem fld_tok (a b c d : Value) (w : World) : (Instr.field 199 (.agg #[a, b, c, d]) 0).run Tryz.prog w = .ok (.agg #[a, b, c]) w := by kernel_rfl
theorem fld_ins (a b c d : Value) (w : World) : (Instr.field 199 (.agg #[a, b, c, d]) 1).run Tryz.prog w = .ok d w := by kernel_rfl
theorem fld_kind (a b c : Value) (w : World) : (Instr.field 93 (.agg #[a, b, c]) 0).run Tryz.prog w = .ok a w := by kernel_rfl
theorem fld_word (a b c : Value) (w : World) : (Instr.field 93 (.agg #[a, b, c]) 1).run Tryz.prog w = .ok b w := by kernel_rfl
attribute [local go_sem] fld_tok fld_ins fld_kind fld_word
structure Rdr (B : Nat) (w : World) (b : Nat) (sv : Value) (l : List Nd) : Prop where
  blk : w.heap[b]? = some (.cells #[sv] 270 (0, 0))
  sl : Sl (fun k => k < B) w sv l
  lo : B ≤ b
theorem Turn.trans' {c : Nat} {w wr w' : World} (h : Turn c w wr) (hb : Below w.heap.size wr w') : Turn c w w' :=
  ⟨hb.os.trans h.os, hb.tape.trans h.tape, hb.output.trans h.output, Nat.le_trans h.size hb.size, fun k hk hc => (hb.block k hk).trans (h.block k hk hc)⟩
section
variable {B : Nat} {w w' : World} {b : Nat} {sv sv' : Value} {l l' : List Nd}
theorem Rdr.lt (h : Rdr B w b sv l) : b < w.heap.size := (Array.getElem?_eq_some_iff.1 h.blk).1
theorem Rdr.c0 (h : Rdr B w b sv l) : w.cell? ⟨b, 0, none⟩ = some sv := by unfold World.cell?; rw [h.blk]; rfl
theorem Rdr.f0 (h : Rdr B w b sv l) : w.frozen? ⟨b, 0, none⟩ = false := by unfold World.frozen?; rw [h.blk]; rfl
theorem Rdr.below (h : Rdr B w b sv l) (hb : Below w.heap.size w w') : Rdr B w' b sv l :=
  ⟨by rw [hb.block b h.lt]; exact h.blk, h.sl.below hb (by have := h.lt; have := h.lo; omega), h.lo⟩
theorem Rdr.turn (h : Rdr B w b sv l) {c : Nat} (hb : Turn c w w') (hc : b < c) : Rdr B w' b sv l :=
  ⟨by rw [hb.block b h.lt (by omega)]; exact h.blk, h.sl.keep (fun _ hg => hg) (fun g hg => by have hg' : g < B := hg; have := h.lo; have := h.lt; exact hb.block g (by omega) (by omega)), h.lo⟩
theorem Rdr.alloc (h : Rdr B w b sv l) (o : Obj) : Rdr B (w.alloc o) b sv l := h.below ((Below.refl _ _).alloc (Nat.le_refl _) _)
theorem Rdr.set (h : Rdr B w b sv l) (hs : Sl (fun k => k < B) w sv' l') : Rdr B (w.setCell ⟨b, 0, none⟩ sv') b sv' l' := by
  refine ⟨?_, hs.keep (fun _ hg => hg) (fun g hg => Below.heap_setCell _ _ _ _ (by have hg' : g < B := hg; have := h.lo; show g ≠ b; omega)), h.lo⟩
  simp only [World.setCell, Array.getElem?_modify, h.blk]
  simp
theorem Rdr.far (h : Rdr B w b sv l) {k : Nat} (hk : b < k) (o : Nat) (u : Value) : Rdr B (w.setCell ⟨k, o, none⟩ u) b sv l :=
  ⟨by rw [Below.heap_setCell _ _ _ _ (by show b ≠ k; omega)]; exact h.blk, h.sl.keep (fun _ hg => hg) (fun g hg => Below.heap_setCell _ _ _ _ (by have hg' : g < B := hg; have := h.lo; show g ≠ k; omega)), h.lo⟩
theorem Turn.far {c : Nat} (h : Turn c w w') {k : Nat} (hk : w.heap.size ≤ k) (o : Nat) (u : Value) : Turn c w (w'.setCell ⟨k, o, none⟩ u) :=
  h.trans' ⟨rfl, rfl, rfl, by simp [World.setCell], fun j hj => Below.heap_setCell _ _ _ _ (by show j ≠ k; omega)⟩
theorem Sl.far {v : Value} {k : Nat} (h : Sl (fun b => b < B) w v l) (hk : B ≤ k) (o : Nat) (u : Value) : Sl (fun b => b < B) (w.setCell ⟨k, o, none⟩ u) v l :=
  h.keep (fun _ hg => hg) (fun g hg => Below.heap_setCell _ _ _ _ (by have hg' : g < B := hg; show g ≠ k; omega))
theorem Rdr.len (h : Rdr B w b sv l) : l.length ≤ 600 := h.sl.len
end
def VB (w : World) (b : Nat) (x0 x1 x2 x3 : Value) : Prop := w.heap[b]? = some (.cells #[x0, x1, x2, x3] 199 (0, 0))
section
variable {w w' : World} {b : Nat} {x0 x1 x2 x3 : Value}
theorem VB.lt (h : VB w b x0 x1 x2 x3) : b < w.heap.size := (Array.getElem?_eq_some_iff.1 h).1
theorem VB.cs (h : VB w b x0 x1 x2 x3) : w.cell? ⟨b, 0, none⟩ = some x0 ∧ w.cell? ⟨b, 1, none⟩ = some x1 ∧ w.cell? ⟨b, 2, none⟩ = some x2 ∧ w.cell? ⟨b, 3, none⟩ = some x3 := by
  have h' : w.heap[b]? = _ := h
  refine ⟨?_, ?_, ?_, ?_⟩ <;> (unfold World.cell?; rw [h']; rfl)
theorem VB.fz (h : VB w b x0 x1 x2 x3) (o : Nat) : w.frozen? ⟨b, o, none⟩ = false := by
  have h' : w.heap[b]? = _ := h
  unfold World.frozen?; rw [h']; simp
theorem VB.below (h : VB w b x0 x1 x2 x3) (hb : Below w.heap.size w w') : VB w' b x0 x1 x2 x3 := by
  show _ = _; rw [hb.block b h.lt]; exact h
theorem VB.turn (h : VB w b x0 x1 x2 x3) {c : Nat} (hb : Turn c w w') (hc : b ≠ c) : VB w' b x0 x1 x2 x3 := by
  show _ = _; rw [hb.block b h.lt hc]; exact h
theorem VB.alloc (h : VB w b x0 x1 x2 x3) (o : Obj) : VB (w.alloc o) b x0 x1 x2 x3 := h.below ((Below.refl _ _).alloc (Nat.le_refl _) _)
theorem VB.new (w : World) (x0 x1 x2 x3 : Value) : VB (w.alloc (.cells #[x0, x1, x2, x3] 199)) w.heap.size x0 x1 x2 x3 := heap_alloc_new w _
end
def hdN : List Nd → Nd
  | [] => .mk (Tok.k 0) []
  | n :: _ => n
theorem ended_c (B b : Nat) (sv : Value) (l : List Nd) (w : World) (h : Rdr B w b sv l) :
    Calls Tryz.prog 197 #[.pointer (some ⟨b, 0, none⟩)] w fun e w' => e = .returned (.bool (l.length == 0)) ∧ w' = w := by
  obtain ⟨a, cap, rfl⟩ := h.sl.form
  have c0 := h.c0
  have hl := h.len
  clear h
  have HV : Hid (((l.length : Int) == 0) = (l.length == 0)) := by
    show _ = _
    rw [Bool.eq_iff_iff]; simp
  go_enter Tryz.func197, Tryz.ntmps197
  go_wp2_with fail
  go_ret
  exact ⟨rbool HV.out, rfl⟩
theorem next_c (B b : Nat) (sv : Value) (l : List Nd) (w : World) (h : Rdr B w b sv l) :
    Calls Tryz.prog 253 #[.pointer (some ⟨b, 0, none⟩)] w fun e w' => ∃ kv, e = .returned (nodV (hdN l).t kv) ∧ Sl (fun k => k < B) w' kv (hdN l).kids ∧ Below w.heap.size w w' := by
  have R1 : ∀ o, Hid (Rdr B (w.alloc o) b sv l) := fun o => h.alloc o
  have hlo := h.lo
  have hlt := h.lt
  cases l with
  | nil =>
    clear h
    go_enter Tryz.func253, Tryz.ntmps253
    go_wp2_with fail
    refine (ended_c B b sv [] _ (R1 _).out).mono ?_
    rintro e w1 ⟨rfl, rfl⟩
    go_wp2_with fail
    refine bodyPost_ret (v := nodV (Tok.k 0) (.slice none 0 0)) (by simp [results, Tryz.results253, go_sem, nodV, Tok.k]; rfl) rfl ?_
    exact ⟨_, rfl, Sl.nil _ _, (Below.refl _ _).alloc (Nat.le_refl _) _⟩
  | cons n r =>
    obtain ⟨g, o, kv, cap, rfl, hN, hcap⟩ := h.sl.head
    have hgB : g < B := hN.s
    have HN : Hid (NodAt (fun k => k < B) w n g o kv) := hN
    have hrl := h.len
    simp only [List.length_cons] at hrl
    have hn0 : ¬ ((r.length : Int) + 1 ≤ 0) := by omega
    clear h hN
    go_enter Tryz.func253, Tryz.ntmps253
    go_wp2_with fail
    refine (ended_c B b _ (n :: r) _ (R1 _).out).mono ?_
    rintro e w1 ⟨rfl, rfl⟩
    have c0 := (R1 (.cells #[.int .i64 0, .string ⟨#[]⟩, .string ⟨#[]⟩, .slice none 0 0] 199)).out.c0
    have N1 := HN.out.below ((Below.refl B w).alloc (show B ≤ w.heap.size by omega) (.cells #[.int .i64 0, .string ⟨#[]⟩, .string ⟨#[]⟩, .slice none 0 0] 199))
    have d0 := N1.c0
    have d1 := N1.c1
    have d2 := N1.c2
    have d3 := N1.c3
    obtain ⟨ka, kc, rfl⟩ := HN.out.k.form
    go_wp2_with fail
    refine bodyPost_ret (v := nodV n.t (.slice ka n.kids.length kc)) (by simp [results, Tryz.results253, go_sem, nodV]) rfl ?_
    exact ⟨_, rfl, HN.out.k.below ((Below.refl w.heap.size w).alloc (Nat.le_refl _) _) (by omega), (Below.refl _ _).alloc (Nat.le_refl _) _⟩
theorem info_vl : ∃ i, Tryz.prog.info? 199 = some i ∧ i.zero = some (.agg #[.int .i64 0, .string ⟨#[]⟩, .string ⟨#[]⟩, .slice none 0 0]) ∧ i.size = 4 ∧ i.bytes = 64 := info_parts (by kernel_rfl)
theorem Sl.cut1v {S : Nat → Prop} {w : World} {a : Option Addr} {n cap : Nat} {x : Nd} {r : List Nd} (h : Sl S w (.slice a n cap) (x :: r)) :
    ∃ a', (∀ W : World, (Instr.slice 128 (.slice a (r.length + 1) cap) (some (.int .i64 1)) none none).run Tryz.prog W = .ok (.slice a' r.length (cap - 1)) W) ∧ Sl S w (.slice a' r.length (cap - 1)) r := by
  obtain ⟨iT, h1, _, h3, _⟩ := info_vl
  refine ⟨if cap = 1 then a else a.map (·.add (1 * 4)), fun W => ?_, ?_⟩
  · rw [run_slice_l (P := Tryz.prog) W 128 a (r.length + 1) cap Tryz.underlying128 .i64 1 (by omega) (by omega)]
    have e : Tryz.prog.elem 128 = 199 := by kernel_rfl
    simp [sizeOf, typeInfo, e, h1, h3, sliced, Result.andThen]
  · have := h.cut 1 (r.length + 1) (by omega) (by simp)
    simpa [sliced] using this
theorem rtake_c (B b : Nat) (sv : Value) (l : List Nd) (w : World) (h : Rdr B w b sv l) :
    Calls Tryz.prog 254 #[.pointer (some ⟨b, 0, none⟩)] w fun e w' => ∃ kv sv', e = .returned (nodV (hdN l).t kv) ∧ Sl (fun k => k < B) w' kv (hdN l).kids ∧ Rdr B w' b sv' l.tail ∧ Turn b w w' := by
  have R1 : ∀ o, Hid (Rdr B (w.alloc o) b sv l) := fun o => h.alloc o
  have hlo := h.lo
  have hlt := h.lt
  have hl6 := h.len
  clear h
  have T1 : ∀ o, Hid (Turn b w (w.alloc o)) := fun o => (Turn.refl b w).alloc o
  have z1 : ∀ o, w.heap.size < (w.alloc o).heap.size := fun o => by simp
  go_enter Tryz.func254, Tryz.ntmps254
  go_wp2_with fail
  generalize hW : w.alloc (.cells #[.int .i64 0, .string ⟨#[]⟩, .string ⟨#[]⟩, .slice none 0 0] 199) = w1 at *
  have R2 : Hid (Rdr B w1 b sv l) := by rw [← hW]; exact R1 _
  have T2 : Hid (Turn b w w1) := by rw [← hW]; exact T1 _
  have Z2 : Hid (w1.heap[w.heap.size]? = some (.cells #[.int .i64 0, .string ⟨#[]⟩, .string ⟨#[]⟩, .slice none 0 0] 199 (0, 0))) := by rw [← hW]; exact heap_alloc_new w _
  clear hW R1 T1 z1
  obtain ⟨gr, Hgr⟩ : ∃ gr, Hid (w.heap.size = gr) := ⟨_, hid rfl⟩
  rw [Hgr.out] at Z2 ⊢
  have Z2' : Hid (VB w1 gr (.int .i64 0) (.string ⟨#[]⟩) (.string ⟨#[]⟩) (.slice none 0 0)) := Z2
  clear Z2
  refine (next_c B b sv l _ R2.out).mono ?_
  rintro e w2 ⟨kv, rfl, hk, hb2⟩
  have R3 : Hid (Rdr B w2 b sv l) := R2.out.below hb2
  have T3 : Hid (Turn b w w2) := T2.out.trans (Turn.of_below hb2)
  have Z3 : Hid (VB w2 gr (.int .i64 0) (.string ⟨#[]⟩) (.string ⟨#[]⟩) (.slice none 0 0)) := Z2'.out.below hb2
  obtain ⟨n, Hn⟩ : ∃ n, Hid (hdN l = n) := ⟨_, hid rfl⟩
  rw [Hn.out] at hk ⊢
  obtain ⟨ka, kc, rfl⟩ := hk.form
  have HK3 : Hid (Sl (fun k => k < B) w2 (.slice ka n.kids.length kc) n.kids) := hk
  clear hk hb2 R2 T2 Z2'
  unfold nodV
  have A4 : Hid (VB (w2.alloc (.cells #[.int .i64 n.t.kind, .string n.t.word, .string n.t.unit, .slice ka n.kids.length kc] 199)) w2.heap.size (.int .i64 n.t.kind) (.string n.t.word) (.string n.t.unit) (.slice ka n.kids.length kc)) := VB.new _ _ _ _ _
  have R4 : Hid (Rdr B (w2.alloc (.cells #[.int .i64 n.t.kind, .string n.t.word, .string n.t.unit, .slice ka n.kids.length kc] 199)) b sv l) := R3.out.alloc _
  have T4 : Hid (Turn b w (w2.alloc (.cells #[.int .i64 n.t.kind, .string n.t.word, .string n.t.unit, .slice ka n.kids.length kc] 199))) := T3.out.alloc _
  have Z4 : Hid (VB (w2.alloc (.cells #[.int .i64 n.t.kind, .string n.t.word, .string n.t.unit, .slice ka n.kids.length kc] 199)) gr (.int .i64 0) (.string ⟨#[]⟩) (.string ⟨#[]⟩) (.slice none 0 0)) := Z3.out.alloc _
  have K4 : Hid (Sl (fun k => k < B) (w2.alloc (.cells #[.int .i64 n.t.kind, .string n.t.word, .string n.t.unit, .slice ka n.kids.length kc] 199)) (.slice ka n.kids.length kc) n.kids) := HK3.out.below ((Below.refl w2.heap.size w2).alloc (Nat.le_refl _) _) (by have := R3.out.lt; omega)
  have hgz : gr < w2.heap.size := Z3.out.lt
  have hbz : b < w2.heap.size := R3.out.lt
  have hbg : ¬ b = gr := by have := Hgr.out; omega
  clear R3 T3 Z3 HK3
  go_upto_region 2 with fail
  generalize w2.alloc (.cells #[.int .i64 n.t.kind, .string n.t.word, .string n.t.unit, .slice ka n.kids.length kc] 199) = w4 at *
  generalize w2.heap.size = gt at *
  go_wp2_with fail
  refine (ended_c B b sv l _ R4.out).mono ?_
  rintro e w5 ⟨rfl, rfl⟩
  obtain ⟨a0, a1, a2, a3⟩ := A4.out.cs
  have z0 := Z4.out.fz 0
  have z1 := Z4.out.fz 1
  have z2 := Z4.out.fz 2
  have z3 := Z4.out.fz 3
  obtain ⟨y0, y1, y2, y3⟩ := Z4.out.cs
  have hgg : ¬ gt = gr := by omega
  have hbt : ¬ b = gt := by omega
  cases l with
  | nil =>
    go_wp2_with fail
    refine bodyPost_ret (v := nodV n.t (.slice ka n.kids.length kc)) (by simp [results, Tryz.results254, go_sem, nodV, y0, y1, y2, y3]) rfl ?_
    have hgr := Hgr.out
    exact ⟨_, sv, by rw [Hn.out], by rw [Hn.out]; exact (((K4.out.far (by omega) _ _).far (by omega) _ _).far (by omega) _ _).far (by omega) _ _, (((R4.out.far (by omega) _ _).far (by omega) _ _).far (by omega) _ _).far (by omega) _ _, (((T4.out.far (by omega) _ _).far (by omega) _ _).far (by omega) _ _).far (by omega) _ _⟩
  | cons m r =>
    obtain ⟨g, o, kv2, cap, rfl, hN, hcap⟩ := R4.out.sl.head
    obtain ⟨a', hcut, hS⟩ := R4.out.sl.cut1v
    have c0 := R4.out.c0
    have f0 := R4.out.f0
    simp only [List.length_cons] at hl6
    go_wp2_with fail
    have R6 := R4.out.set hS
    refine bodyPost_ret (v := nodV n.t (.slice ka n.kids.length kc)) (by simp [results, Tryz.results254, go_sem, nodV, y0, y1, y2, y3]) rfl ?_
    have hgr := Hgr.out
    exact ⟨_, _, by rw [Hn.out], by rw [Hn.out]; exact ((((K4.out.far (by omega) _ _).far (by omega) _ _).far (by omega) _ _).far (by omega) _ _).far (by omega) _ _, (((R6.far (by omega) _ _).far (by omega) _ _).far (by omega) _ _).far (by omega) _ _, ((((T4.out.setCell _ _).far (by omega) _ _).far (by omega) _ _).far (by omega) _ _).far (by omega) _ _⟩
def offS (s : ByteArray) (l : List Nd) : List Nd := if signT (hdN l).t s = true then l.tail else l
theorem offS_no {s : ByteArray} {l : List Nd} (h : signT (hdN l).t s = false) : offS s l = l := by unfold offS; rw [h]; rfl
theorem offS_yes {s : ByteArray} {l : List Nd} (h : signT (hdN l).t s = true) : offS s l = l.tail := by unfold offS; rw [if_pos h]
theorem takeSign_c (B b : Nat) (sv : Value) (l : List Nd) (s : ByteArray) (w : World) (h : Rdr B w b sv l) :
    Calls Tryz.prog 255 #[.pointer (some ⟨b, 0, none⟩), .string s] w fun e w' => ∃ sv', e = .returned (.bool (signT (hdN l).t s)) ∧ Rdr B w' b sv' (offS s l) ∧ Turn b w w' := by
  have R1 : Hid (Rdr B w b sv l) := h
  clear h
  go_enter Tryz.func255, Tryz.ntmps255
  go_wp2_with fail
  refine (next_c B b sv l _ R1.out).mono ?_
  rintro e w1 ⟨kv, rfl, _, hb1⟩
  have R2 : Hid (Rdr B w1 b sv l) := R1.out.below hb1
  have T2 : Hid (Turn b w w1) := Turn.of_below hb1
  clear hb1 R1
  go_wp2_with fail
  refine (IsSign_c _ kv s _).mono ?_
  rintro e w2 ⟨rfl, hb2⟩
  have R3 : Hid (Rdr B w2 b sv l) := R2.out.below hb2
  have T3 : Hid (Turn b w w2) := T2.out.trans (Turn.of_below hb2)
  clear hb2 R2 T2
  obtain ⟨c, Hc⟩ : ∃ c, Hid (signT (hdN l).t s = c) := ⟨_, hid rfl⟩
  rw [Hc.out]
  cases c
  · go_wp2_with fail
    go_ret
    exact ⟨_, rbool Hc.out.symm, by rw [offS_no Hc.out]; exact R3.out, T3.out⟩
  · go_wp2_with fail
    refine (rtake_c B b sv l _ R3.out).mono ?_
    rintro e w4 ⟨kv4, sv4, rfl, _, hR4, hT4⟩
    have R5 : Hid (Rdr B w4 b sv4 l.tail) := hR4
    have T5 : Hid (Turn b w w4) := T3.out.trans hT4
    clear hR4 hT4
    go_wp2_with fail
    go_ret
    exact ⟨_, rbool Hc.out.symm, by rw [offS_yes Hc.out]; exact R5.out, T5.out⟩
theorem rpass_c (B b : Nat) (sv : Value) (l : List Nd) (w : World) (h : Rdr B w b sv l) :
    Calls Tryz.prog 258 #[.pointer (some ⟨b, 0, none⟩)] w fun e w' => ∃ sv', e = .returned (.bool (decide ((dropB l).length < l.length))) ∧ Rdr B w' b sv' (dropB l) ∧ Turn b w w' := by
  have R1 : Hid (Rdr B w b sv l) := h
  clear h
  go_enter Tryz.func258, Tryz.ntmps258
  go_wp2_with fail
  go_loopg [3] l.length (fun g v3 wr => ∃ (cur : List Nd) (sv : Value) (p : Bool), v3 = .bool p ∧ g = cur.length ∧ Aside (Rdr B wr b sv cur ∧ Turn b w wr ∧ dropB cur = dropB l ∧ cur.length ≤ l.length ∧ p = decide (cur.length < l.length)))
  case atStart => exact ⟨l, sv, false, rfl, rfl, R1.out, Turn.refl _ _, rfl, Nat.le_refl _, by simp⟩
  case round =>
    obtain ⟨cur, sv, p, rfl, rfl, hA⟩ := hrel
    have R2 : Hid (Rdr B wr b sv cur) := hA.out.1
    have T2 : Hid (Turn b w wr) := hA.out.2.1
    have HD : Hid (dropB cur = dropB l) := hA.out.2.2.1
    have HL : Hid (cur.length ≤ l.length ∧ p = decide (cur.length < l.length)) := hA.out.2.2.2
    clear hA R1
    go_wp2_with fail
    refine (next_c B b sv cur _ R2.out).mono ?_
    rintro e w1 ⟨kv, rfl, _, hb1⟩
    have R3 : Hid (Rdr B w1 b sv cur) := R2.out.below hb1
    have T3 : Hid (Turn b w w1) := T2.out.trans (Turn.of_below hb1)
    clear hb1 R2 T2
    unfold nodV
    cases hk : ((hdN cur).t.kind == 1)
    · have HE : Hid (dropB l = cur) := by
        show _ = _
        rw [← HD.out]
        cases cur with
        | nil => rfl
        | cons n r => exact dropB_other (by simpa [hdN] using hk)
      have HV : Hid (p = decide ((dropB l).length < l.length)) := by show _ = _; rw [HE.out]; exact HL.out.2
      go_wp2_with fail
      go_ret
      exact ⟨_, rbool HV.out, by rw [HE.out]; exact R3.out, T3.out⟩
    · obtain ⟨n, r, rfl, hn⟩ : ∃ n r, cur = n :: r ∧ n.t.kind = 1 := by
        cases cur with
        | nil => simp [hdN, Tok.k] at hk
        | cons n r => exact ⟨n, r, rfl, by simpa [hdN] using hk⟩
      have HD2 : Hid (dropB r = dropB l) := by show _ = _; rw [← HD.out, dropB_blank hn]
      have HL2 : Hid (r.length ≤ l.length ∧ true = decide (r.length < l.length)) := by
        have := HL.out.1
        simp only [List.length_cons] at this
        exact ⟨by omega, by simp; omega⟩
      clear hn HD HL
      go_wp2_with fail
      refine (rtake_c B b sv (n :: r) _ R3.out).mono ?_
      rintro e w4 ⟨kv4, sv4, rfl, _, hR4, hT4⟩
      have R5 : Hid (Rdr B w4 b sv4 r) := hR4
      have T5 : Hid (Turn b w w4) := T3.out.trans hT4
      clear hR4 hT4
      go_wp2_with fail
      go_roundg r.length
      case measure => simp
      case rel => exact ⟨r, sv4, true, rfl, rfl, R5.out, T5.out, HD2.out, HL2.out.1, HL2.out.2⟩
end
end Go.Proofs.YtlliliddljkbfaaGreat
namespace Go.Proofs.YtlliliddljkbfaaGreat
set_option maxHeartbeats 64000000
set_option maxRecDepth 100000
open Go.RowKit
theorem wpList_append_str {P : Program} (w : World) {ops : Array Oper} {rest : List Oper} {o : Oper} {a : Act} {Q : Exit → Act → World → Prop}
    (hg : o.guard = none) (s x : Operand) (t tx : TypeId) (hop : o.op = Op.call { callee := Callee.builtin Builtin.append, args := #[s, x], argTypes := #[t, tx] })
    (base : Nat) (e : TypeId) (i : TypeInfo) (h1 : P.underlying t = some (.slice e)) (h1x : P.underlying tx = some .string) (h2 : P.info? e = some i) (h4 : i.size = 1)
    (g k cap : Nat) (xs : List Value) (hs : a.eval s = .slice (some ⟨g, 0, none⟩) k cap) (hown : w.ownsRow base e 1 (.slice (some ⟨g, 0, none⟩) k cap) k xs) (str : ByteArray) (hx : a.eval x = .string str) (b1 : k + str.size ≤ cap)
    (hK : ∀ w', w'.ownsRow base e 1 (.slice (some ⟨g, 0, none⟩) (k + str.size) cap) (k + str.size) (xs ++ byteCells str) → w.grownBy w' (some g) → wpList P ops Q rest (a.put o.dst (.slice (some ⟨g, 0, none⟩) (k + str.size) cap)) w') :
    wpList P ops Q (o :: rest) a w := by
  refine wpList_plain hg fun K hK' => ?_
  have hl : (byteCells str).length = str.size := byteCells_length str
  have hone : ∀ u ∈ byteCells str, u.oneCell' = true := (Src.ofString (P := P) w h1x str).one
  rcases hown.2 with ⟨hv, _⟩ | ⟨g', cap', cur, hv, hb, hgg, hnc, hcm, hcs, htake⟩
  · cases hv
  · have hv' : g = g' ∧ cap = cap' := by
      injection hv with e1 e2 e3
      injection e1 with e1
      injection e1 with e1
      exact ⟨e1, e3⟩
    obtain ⟨rfl, rfl⟩ := hv'
    have hx0 := hown.1
    have hst := run_storeCells_at P g k e (byteCells str) 0 cur w hgg (by rw [hl, hcs]; omega) hone
    simp only [Nat.add_zero] at hst
    have hrun : (Builtin.append_ #[t, tx] o.type #[.slice (some ⟨g, 0, none⟩) k cap, .string str]).run P w =
        .ok (.slice (some ⟨g, 0, none⟩) (k + str.size) cap) (w.setRow g (cur.toList.take k ++ byteCells str ++ cur.toList.drop (k + (byteCells str).length)).toArray) := by
      have hf := firstCells_string (P := P) str w
      simp [Builtin.append_, run_underlying h1, run_underlying h1x, sizeOf, typeInfo, h2, h4, Builtin.lenOf, b1, hf, Addr.add_lit, hst]
    unfold Oper.wp
    simp only [execOp, hop, resolve, invoke, builtin, Sem.run_bind, Sem.run_pure, Result.andThen_ok, List.map_toArray, List.map_cons, List.map_nil, hs, hx, hrun]
    refine hK' _ _ (hK _ ⟨?_, .inr ⟨g, cap, _, rfl, hb, setRow_heap w g cur _ e _ hgg, b1, hcm, ?_, ?_⟩⟩ ⟨rfl, rfl, rfl, by simp, fun k' _ hk => setRow_other w g k' _ (fun e => hk (by rw [e]))⟩)
    · rw [List.length_append, hx0, hl]; omega
    · simp only [List.size_toArray, List.length_append, List.length_take, List.length_drop, Array.length_toList, hl]
      omega
    · have h3 : (k + str.size) * 1 = (cur.toList.take k ++ byteCells str).length := by
        simp only [List.length_append, List.length_take, Array.length_toList, hl]; omega
      rw [h3]
      dsimp only
      rw [List.take_left]
      congr 1
      rw [← htake]
      simp
theorem conv_own {P : Program} (w : World) (src dst e : TypeId) (hs : P.underlying src = some (.slice e)) (he : P.underlying e = some (.int .u8)) (hd : P.underlying dst = some .string)
    {base : Nat} {v : Value} (l : List UInt8) (hown : w.ownsRow base e 1 v l.length (l.map fun b => Value.int .u8 (b.toNat : Int))) :
    (convert src dst v).run P w = .ok (.string ⟨l.toArray⟩) w := by
  rcases hown.2 with ⟨rfl, h0⟩ | ⟨g, cap, cur, rfl, hb, hgg, hnc, hcm, hcs, htake⟩
  · have : l = [] := List.eq_nil_of_length_eq_zero h0
    subst this
    rw [run_convert_bytes_nil w src e hs he 0 0 dst hd]
    rfl
  · refine run_convert_bytes_back w src dst e ⟨g, 0, none⟩ cap l hs he hd ?_
    intro j hj
    exact hown.cells (g := g) rfl j _ (by simp [hj])
theorem byteCells_map (s : ByteArray) : byteCells s = s.data.toList.map fun b => Value.int .u8 (b.toNat : Int) := rfl
theorem info_u8 : ∃ i, Tryz.prog.info? 5 = some i ∧ i.zero = some (.int .u8 0) ∧ i.size = 1 ∧ i.bytes = 1 := info_parts (by kernel_rfl)
theorem info_str : ∃ i, Tryz.prog.info? 9 = some i ∧ i.zero = some (.string ⟨#[]⟩) ∧ i.size = 1 ∧ i.bytes = 16 := info_parts (by kernel_rfl)
theorem info_tok : ∃ i, Tryz.prog.info? 93 = some i ∧ i.zero = some (.agg #[.int .i64 0, .string ⟨#[]⟩, .string ⟨#[]⟩]) ∧ i.size = 3 ∧ i.bytes = 40 := info_parts (by kernel_rfl)
end Go.Proofs.YtlliliddljkbfaaGreat
namespace Go.Proofs.YtlliliddljkbfaaGreat
set_option maxHeartbeats 64000000
set_option maxRecDepth 100000
open Go.RowKit
def joinB : List ByteArray → ByteArray
  | [] => ByteArray.empty
  | x :: r => x ++ joinB r
def total : List ByteArray → Nat
  | [] => 0
  | x :: r => x.size + total r
theorem total_append : ∀ (a b : List ByteArray), total (a ++ b) = total a + total b
  | [], b => by simp [total]
  | x :: a, b => by simp [total, total_append a b]; omega
theorem joinB_append : ∀ (a b : List ByteArray), joinB (a ++ b) = joinB a ++ joinB b
  | [], b => by simp [joinB]
  | x :: a, b => by simp [joinB, joinB_append a b, ByteArray.append_assoc]
theorem size_joinB : ∀ (a : List ByteArray), (joinB a).size = total a
  | [] => rfl
  | x :: a => by simp [joinB, total, size_joinB a]
theorem joinB_snoc (a : List ByteArray) (x : ByteArray) : joinB (a ++ [x]) = joinB a ++ x := by simp [joinB_append, joinB]
theorem take_snoc {α : Type} (l : List α) (k : Nat) (h : k < l.length) : l.take (k + 1) = l.take k ++ [l[k]] := by
  rw [List.take_succ_eq_append_getElem h]
theorem total_take_le (l : List ByteArray) (k : Nat) : total (l.take k) ≤ total l := by
  have := total_append (l.take k) (l.drop k)
  rw [List.take_append_drop] at this
  omega
theorem cells_joinB (a b : ByteArray) : byteCells (a ++ b) = byteCells a ++ byteCells b := by
  simp [byteCells, ByteArray.data_append]
theorem Join_some (ps : List ByteArray) (g cap base : Nat) (w : World) (h : w.ownsRow base 9 1 (.slice (some ⟨g, 0, none⟩) ps.length cap) ps.length (ps.map Value.string)) (hn : ps.length ≤ 1099511627776) (ht : total ps ≤ 1099511627776) :
    Calls Tryz.prog 72 #[.slice (some ⟨g, 0, none⟩) ps.length cap] w fun e w' => e = .returned (.string (joinB ps)) ∧ Below w.heap.size w w' := by
  have hcell : ∀ k (hk : k < ps.length), w.cell? ⟨g, k, none⟩ = some (.string ps[k]) := by
    intro k hk
    have := h.cells (g := g) rfl k (.string ps[k]) (by simp [hk])
    rwa [Addr.add_lit, Nat.zero_add] at this
  have hglt : g < w.heap.size := (h.lt g rfl).2
  clear h
  have HC : Hid (∀ k (hk : k < ps.length), w.cell? ⟨g, k, none⟩ = some (.string ps[k])) := hcell
  clear hcell
  obtain ⟨iU, hiU, hzU, hsU, hbU⟩ := info_u8
  have HI : Hid (Tryz.prog.info? 5 = some iU ∧ iU.zero = some (.int .u8 0) ∧ iU.size = 1 ∧ iU.bytes = 1) := ⟨hiU, hzU, hsU, hbU⟩
  clear hiU hzU hsU hbU
  go_enter Tryz.func72, Tryz.ntmps72
  go_wp2_with fail
  go_loopg [3, 11] ps.length (fun gg v3 v11 wr => ∃ k : Nat, k + gg = ps.length ∧ v11 = .int .i64 (k : Int) ∧ v3 = .int .i64 (total (ps.take k) : Int) ∧ Aside (w = wr))
  case atStart => exact ⟨0, by omega, rfl, rfl, rfl⟩
  case round =>
    obtain ⟨k, hk, rfl, rfl, hA⟩ := hrel
    obtain rfl := hA.out
    clear hA
    have hle := total_take_le ps k
    by_cases hlt : k < ps.length
    · have hc := HC.out k hlt
      have hT : Hid (total (ps.take (k + 1)) = total (ps.take k) + ps[k].size) := by
        show _ = _
        rw [take_snoc ps k hlt, total_append]; simp [total]
      have hle2 := total_take_le ps (k + 1)
      have hsz : ps[k].size ≤ 1099511627776 := by have := hT.out; omega
      clear hle2
      go_wp2_with fail
      go_roundg (gk - 1)
      case measure => omega
      case rel => exact ⟨k + 1, by omega, by congr 1, by rw [hT.out]; congr 1, rfl⟩
    · have hk2 : Hid (k = ps.length) := by show k = _; omega
      have hT : Hid (ps.take k = ps) := by show _ = _; rw [hk2.out]; simp
      have hsum : Hid (total (ps.take k) = total ps) := by show _ = _; rw [hT.out]
      generalize hm : total (ps.take k) = m at *
      have Hm : Hid (m = total ps) := hsum.out
      clear hm hsum hT
      have hmle : m ≤ 1099511627776 := by omega
      go_wp2_with (at_make; refine wpList_make_own _ rfl _ _ 145 rfl w.heap.size 5 iU (.int .u8 0) 1 Tryz.underlying145 HI.out.1 HI.out.2.1 HI.out.2.2.1 _ _ _ m rfl rfl rfl ?_ ?_ ?_ ?_)
      · rw [HI.out.2.2.2]; omega
      · unfold maxLen; omega
      · exact Nat.le_refl _
      intro w1 hown1 hgr1
      have hb1 : Below w.heap.size w w1 := (Below.refl _ _).grown hgr1 (Nat.le_refl _) (fun _ h => by cases h)
      have HB1 : Hid (Below w.heap.size w w1) := hb1
      have HO1 : Hid (w1.ownsRow w.heap.size 5 1 (.slice (some ⟨w.heap.size, 0, none⟩) 0 m) 0 []) := hown1
      clear hown1 hgr1 hb1
      go_wp2_with fail
      go_loopg [6, 24] ps.length (fun gg v6 v24 w2 => ∃ j : Nat, j + gg = ps.length ∧ v24 = .int .i64 (j : Int) ∧ v6 = .slice (some ⟨w.heap.size, 0, none⟩) (total (ps.take j)) m ∧
        Aside (w2.ownsRow w.heap.size 5 1 (.slice (some ⟨w.heap.size, 0, none⟩) (total (ps.take j)) m) (total (ps.take j)) (byteCells (joinB (ps.take j))) ∧ Below w.heap.size w w2))
      case atStart => exact ⟨0, by omega, rfl, rfl, HO1.out, HB1.out⟩
      case round =>
        obtain ⟨j, hj, rfl, rfl, hA⟩ := hrel
        have HO : Hid (wr.ownsRow w.heap.size 5 1 (.slice (some ⟨w.heap.size, 0, none⟩) (total (ps.take j)) m) (total (ps.take j)) (byteCells (joinB (ps.take j)))) := hA.out.1
        have HB : Hid (Below w.heap.size w wr) := hA.out.2
        clear hA
        have hle2 := total_take_le ps j
        by_cases hlt2 : j < ps.length
        · have hc : wr.cell? ⟨g, j, none⟩ = some (.string ps[j]) := by
            rw [HB.out.cell (p := ⟨g, j, none⟩) hglt]; exact HC.out j hlt2
          have hT : Hid (total (ps.take (j + 1)) = total (ps.take j) + ps[j].size) := by
            show _ = _
            rw [take_snoc ps j hlt2, total_append]; simp [total]
          have hle3 : total (ps.take j) + ps[j].size ≤ m := by
            have h1 := total_take_le ps (j + 1)
            have h2 := hT.out
            have h3 := Hm.out
            omega
          generalize hpj : ps[j] = q at *
          generalize htj : total (ps.take j) = tj at *
          have Hpj : Hid (ps[j] = q) := hpj
          have Htj : Hid (total (ps.take j) = tj) := htj
          clear hpj htj
          go_wp2_with (at_builtin; refine wpList_append_str _ rfl _ _ 145 9 rfl w.heap.size 5 iU Tryz.underlying145 Tryz.underlying9 HI.out.1 HI.out.2.2.1 w.heap.size tj m (byteCells (joinB (ps.take j))) rfl HO.out q rfl hle3 ?_)
          intro w3 hown3 hgr3
          have HO3 : Hid (w3.ownsRow w.heap.size 5 1 (.slice (some ⟨w.heap.size, 0, none⟩) (tj + q.size) m) (tj + q.size) (byteCells (joinB (ps.take j)) ++ byteCells q)) := hown3
          have HB3 : Hid (Below w.heap.size w w3) := HB.out.grown hgr3 HB.out.size (fun k hk => by cases hk; exact Nat.le_refl _)
          clear hown3 hgr3
          go_wp2_with fail
          go_roundg (gk - 1)
          case measure => omega
          case rel =>
            refine ⟨j + 1, by omega, by congr 1, by rw [hT.out], ?_, HB3.out⟩
            rw [hT.out, take_snoc ps j hlt2, joinB_snoc, cells_joinB, Hpj.out]
            exact HO3.out
        · have hT : Hid (ps.take j = ps) := by show _ = _; rw [List.take_of_length_le (by omega)]
          have hcv : (convert 145 9 (.slice (some ⟨w.heap.size, 0, none⟩) (total (ps.take j)) m)).run Tryz.prog wr = .ok (.string (joinB ps)) wr := by
            have h1 := HO.out
            rw [hT.out] at h1 ⊢
            rw [byteCells_map] at h1
            have h2 := conv_own (P := Tryz.prog) wr 145 9 5 Tryz.underlying145 Tryz.underlying5 Tryz.underlying9 (base := w.heap.size) (v := .slice (some ⟨w.heap.size, 0, none⟩) (total ps) m) (joinB ps).data.toList (by
              have e : (joinB ps).data.toList.length = total ps := by rw [← size_joinB]; rfl
              rw [e]; exact h1)
            simpa using h2
          go_wp2_with fail
          go_ret
          exact ⟨rfl, HB.out⟩
theorem Join_none (w : World) : Calls Tryz.prog 72 #[.slice none 0 0] w fun e w' => e = .returned (.string ByteArray.empty) ∧ Below w.heap.size w w' := by
  obtain ⟨iU, hiU, hzU, hsU, hbU⟩ := info_u8
  have HI : Hid (Tryz.prog.info? 5 = some iU ∧ iU.zero = some (.int .u8 0) ∧ iU.size = 1 ∧ iU.bytes = 1) := ⟨hiU, hzU, hsU, hbU⟩
  clear hiU hzU hsU hbU
  go_enter Tryz.func72, Tryz.ntmps72
  go_wp2_with fail
  go_loopg [3, 11] 0 (fun gg v3 v11 wr => v11 = .int .i64 0 ∧ v3 = .int .i64 0 ∧ Aside (w = wr))
  case atStart => exact ⟨rfl, rfl, rfl⟩
  case round =>
    obtain ⟨rfl, rfl, hA⟩ := hrel
    obtain rfl := hA.out
    clear hA
    go_wp2_with (at_make; refine wpList_make_own _ rfl _ _ 145 rfl w.heap.size 5 iU (.int .u8 0) 1 Tryz.underlying145 HI.out.1 HI.out.2.1 HI.out.2.2.1 _ _ _ 0 rfl rfl rfl ?_ ?_ ?_ ?_)
    · omega
    · unfold maxLen; omega
    · exact Nat.le_refl _
    intro w1 hown1 hgr1
    have HB1 : Hid (Below w.heap.size w w1) := (Below.refl _ _).grown hgr1 (Nat.le_refl _) (fun _ h => by cases h)
    have HO1 : Hid (w1.ownsRow w.heap.size 5 1 (.slice (some ⟨w.heap.size, 0, none⟩) 0 0) 0 []) := hown1
    clear hown1 hgr1
    go_wp2_with fail
    go_loopg [6, 24] 0 (fun gg v6 v24 w2 => v24 = .int .i64 0 ∧ v6 = .slice (some ⟨w.heap.size, 0, none⟩) 0 0 ∧ Aside (w1 = w2))
    case atStart => exact ⟨rfl, rfl, rfl⟩
    case round =>
      obtain ⟨rfl, rfl, hA⟩ := hrel
      obtain rfl := hA.out
      clear hA
      have hcv : (convert 145 9 (.slice (some ⟨w.heap.size, 0, none⟩) 0 0)).run Tryz.prog w1 = .ok (.string ByteArray.empty) w1 :=
        conv_own (P := Tryz.prog) w1 145 9 5 Tryz.underlying145 Tryz.underlying5 Tryz.underlying9 (base := w.heap.size) (v := .slice (some ⟨w.heap.size, 0, none⟩) 0 0) [] HO1.out
      go_wp2_with fail
      go_ret
      exact ⟨rfl, HB1.out⟩
theorem Join_c (ps : List ByteArray) (base : Nat) (v : Value) (w : World) (h : w.ownsRow base 9 1 v ps.length (ps.map Value.string)) (hn : ps.length ≤ 1099511627776) (ht : total ps ≤ 1099511627776) :
    Calls Tryz.prog 72 #[v] w fun e w' => e = .returned (.string (joinB ps)) ∧ Below w.heap.size w w' := by
  rcases h.2 with ⟨rfl, h0⟩ | ⟨g, cap, cur, rfl, _⟩
  · have : ps = [] := List.eq_nil_of_length_eq_zero h0
    subst this
    exact Join_none w
  · exact Join_some ps g cap base w h hn ht
end Go.Proofs.YtlliliddljkbfaaGreat
