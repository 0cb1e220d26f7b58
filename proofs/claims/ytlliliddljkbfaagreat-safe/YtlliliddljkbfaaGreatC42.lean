import Derived.Test.YtlliliddljkbfaaGreatC3
import Derived.Test.YtlliliddljkbfaaGreatC8
import Derived.Deep.DeepCutAuto
import Derived.Deep.Light
import Derived.Deep.RegionLaw
namespace Go.Proofs.YtlliliddljkbfaaGreat
set_option maxHeartbeats 64000000
set_option maxRecDepth 100000
open Go.RowKit Sp
theorem info_val : ∃ i, Tryz.prog.info? 199 = some i ∧ i.zero = some (.agg #[.int .i64 0, .string ⟨#[]⟩, .string ⟨#[]⟩, .slice none 0 0]) ∧ i.size = 4 ∧ i.bytes = 64 := info_parts (by kernel_rfl)
theorem info_blk : ∃ i, Tryz.prog.info? 195 = some i ∧ i.zero = some (.agg #[.int .i64 0, .string ⟨#[]⟩, .string ⟨#[]⟩, .string ⟨#[]⟩, .slice none 0 0]) ∧ i.size = 5 ∧ i.bytes = 80 := info_parts (by kernel_rfl)
theorem Stk.last {base : Nat} {w : World} {v : Value} {L : List Fr} {f : Fr} (h : Stk base w v (L ++ [f])) {g n cap : Nat} (e : v = .slice (some ⟨g, 0, none⟩) n cap) (j : Nat) (u : Value) (hu : f.cells[j]? = some u) : w.cell? ⟨g, L.length * 5 + j, none⟩ = some u := by
  have hj : j < 5 := by have := (List.getElem?_eq_some_iff.1 hu).1; simpa [Fr.cells] using this
  have := h.row.cells (g := g) (by rw [e]; rfl) (L.length * 5 + j) u (by
    rw [List.flatMap_append, List.getElem?_append_right (by rw [flat_cells_len]; omega), flat_cells_len]
    simpa using hu)
  rwa [Addr.add_lit, Nat.zero_add] at this
theorem Stk.form {base : Nat} {w : World} {v : Value} {L : List Fr} {f : Fr} (h : Stk base w v (L ++ [f])) : ∃ g cap, v = .slice (some ⟨g, 0, none⟩) (L.length + 1) cap := by
  have := h.row
  rw [List.length_append] at this
  exact own_sme this
theorem own_cap {w : World} {base e s n n' cap : Nat} {a : Option Addr} {xs : List Value} (h : w.ownsRow base e s (.slice a n cap) n' xs) : n ≤ cap := by
  rcases h.2 with ⟨hv, hn⟩ | ⟨_, _, _, hv, _, _, hnc, _⟩
  · injection hv; omega
  · injection hv; omega
theorem put_comm (w : World) {g gv o a0 a1 a2 a3 : Nat} (h : gv ≠ g) (y x0 x1 x2 x3 : Value) : ((((w.setCell ⟨gv, a0, none⟩ x0).setCell ⟨gv, a1, none⟩ x1).setCell ⟨gv, a2, none⟩ x2).setCell ⟨gv, a3, none⟩ x3).setCell ⟨g, o, none⟩ y = ((((w.setCell ⟨g, o, none⟩ y).setCell ⟨gv, a0, none⟩ x0).setCell ⟨gv, a1, none⟩ x1).setCell ⟨gv, a2, none⟩ x2).setCell ⟨gv, a3, none⟩ x3 := by
  have c : ∀ (w : World) (a : Nat) (x : Value), (w.setCell ⟨gv, a, none⟩ x).setCell ⟨g, o, none⟩ y = (w.setCell ⟨g, o, none⟩ y).setCell ⟨gv, a, none⟩ x := fun w a x => setCell_comm w (by exact h) _ _
  rw [c, c, c, c]
theorem closeLast_c (base : Nat) (L : List Fr) (f1 f2 : Fr) (v : Value) (w : World) (h : Stk base w v (L ++ [f1] ++ [f2])) (hL : L.length ≤ 600) (h1 : f1.ins.length ≤ 600) (h2 : f2.ins.length ≤ 600) (hb : base ≤ w.heap.size) :
    Calls Tryz.prog 110 #[v] w fun e w' => ∃ v' f, e = .returned v' ∧ Stk base w' v' (L ++ [f]) ∧ f.tok = f1.tok ∧ f.ins = f1.ins ++ [.mk f2.tok f2.ins] ∧ Below base w w' := by
  obtain ⟨g, cap, rfl⟩ := h.form
  have hlen : (L ++ [f1]).length = L.length + 1 := by simp
  rw [hlen] at h ⊢
  have b0 := h.last rfl 0 _ rfl
  have b1 := h.last rfl 1 _ rfl
  have b2 := h.last rfl 2 _ rfl
  have b3 := h.last rfl 3 _ rfl
  have b4 := h.last rfl 4 _ rfl
  rw [hlen] at b0 b1 b2 b3 b4
  rw [Nat.add_zero] at b0
  obtain ⟨hd, hsl⟩ := h.drop h2 rfl
  rw [hlen] at hd hsl
  have HD : Hid (Stk base w (.slice (some ⟨g, 0, none⟩) (L.length + 1) cap) (L ++ [f1])) := hd
  have HSL : Hid (Sl (Fin_ base w (.slice (some ⟨g, 0, none⟩) (L.length + 1) cap) (L ++ [f1])) w f2.v f2.ins) := hsl
  have HOK : Hid (TokOK f2.tok) := h.ok f2 (by simp)
  have hg := h.row.lt g rfl
  obtain ⟨a2, c2, e2⟩ := hsl.form
  have hcap : L.length + 1 + 1 ≤ cap := own_cap h.row
  clear h hd hsl
  rw [e2] at b4 HSL
  go_enter Tryz.func110, Tryz.ntmps110
  go_upto_region 4 with fail
  have A2 : Hid (Stk base (w.alloc (.cells #[.int .i64 f2.tok.kind, .string f2.tok.word, .string f2.tok.unit, .string (closing f2.tok), .slice a2 f2.ins.length c2] 195)) (.slice (some ⟨g, 0, none⟩) (L.length + 1) cap) (L ++ [f1])) := HD.out.keep (by simp) fun k _ hk => Below.heap_alloc _ _ _ hk
  have S2 : Hid (Sl (Fin_ base (w.alloc (.cells #[.int .i64 f2.tok.kind, .string f2.tok.word, .string f2.tok.unit, .string (closing f2.tok), .slice a2 f2.ins.length c2] 195)) (.slice (some ⟨g, 0, none⟩) (L.length + 1) cap) (L ++ [f1])) (w.alloc (.cells #[.int .i64 f2.tok.kind, .string f2.tok.word, .string f2.tok.unit, .string (closing f2.tok), .slice a2 f2.ins.length c2] 195)) (.slice a2 f2.ins.length c2) f2.ins) := HSL.out.keep (fun k hk => ⟨hk.1, by have := hk.2.1; simp; omega, hk.2.2⟩) fun k hk => Below.heap_alloc _ _ _ hk.2.1
  have B2 : Hid (Below base w (w.alloc (.cells #[.int .i64 f2.tok.kind, .string f2.tok.word, .string f2.tok.unit, .string (closing f2.tok), .slice a2 f2.ins.length c2] 195))) := (Below.refl _ _).alloc hb _
  have l0 : ∀ j u, [Value.int .i64 f2.tok.kind, .string f2.tok.word, .string f2.tok.unit, .string (closing f2.tok), .slice a2 f2.ins.length c2][j]? = some u → (w.alloc (.cells #[.int .i64 f2.tok.kind, .string f2.tok.word, .string f2.tok.unit, .string (closing f2.tok), .slice a2 f2.ins.length c2] 195)).cell? ⟨w.heap.size, j, none⟩ = some u := by
    intro j u hu
    rw [World.cell?_alloc_mark, ← hu]
    simp
  have d0 := l0 0 _ rfl
  have d1 := l0 1 _ rfl
  have d2 := l0 2 _ rfl
  have d4 := l0 4 _ rfl
  have hz : w.heap.size < (w.alloc (.cells #[.int .i64 f2.tok.kind, .string f2.tok.word, .string f2.tok.unit, .string (closing f2.tok), .slice a2 f2.ins.length c2] 195)).heap.size := by simp
  generalize w.alloc (.cells #[.int .i64 f2.tok.kind, .string f2.tok.word, .string f2.tok.unit, .string (closing f2.tok), .slice a2 f2.ins.length c2] 195) = w2 at *
  generalize w.heap.size = gl at *
  clear l0 b0 b1 b2 b3 b4 HD HSL
  obtain ⟨iT, hiT⟩ := info_val
  have HI : Hid (Tryz.prog.info? 199 = some iT ∧ iT.zero = some (.agg #[.int .i64 0, .string ⟨#[]⟩, .string ⟨#[]⟩, .slice none 0 0]) ∧ iT.size = 4 ∧ iT.bytes = 64) := hiT
  clear hiT
  have hf : w2.cell? ⟨g, L.length * 5 + 4, none⟩ = some f1.v := A2.out.last rfl 4 _ rfl
  have hz4 : w2.frozen? ⟨g, L.length * 5 + 4, none⟩ = false := by
    have hr := A2.out.row
    rw [hlen] at hr
    exact hr.frozenAt _
  have O2 : Hid (w2.ownsRow base 199 4 f1.v f1.ins.length f1.cs) := A2.out.own f1 (by simp)
  obtain ⟨ka, kc, e1⟩ := own_form O2.out
  have hap : some g ≠ f1.v.ownBlock := fun e2 => A2.out.apart (f := f1) (by simp) g rfl e2.symm
  have hgb := A2.out.row.lt g rfl
  rw [e1] at hf O2 hap
  have r2 : (f1.ins.length : Int) < (f1.ins.length : Int) + 1 := by omega
  have HCL : Hid (f1.cs.length = f1.ins.length * 4) := O2.out.1
  have FINB : Hid (∀ (gv vc : Nat) (X : Obj) (w4 : World), w4.ownsRow base 199 4 (.slice (some ⟨gv, 0, none⟩) (f1.ins.length + 1) vc) (f1.ins.length + 1) (f1.cs ++ [.int .i64 0, .string ⟨#[]⟩, .string ⟨#[]⟩, .slice none 0 0]) → (w2.drew.alloc X).grownBy w4 (Value.ownBlock (.slice ka f1.ins.length kc)) → (some gv = Value.ownBlock (.slice ka f1.ins.length kc) ∨ some gv = some (w2.drew.alloc X).heap.size) → ∃ v' f, v' = .slice (some ⟨g, 0, none⟩) (L.length + 1) cap ∧ Stk base (((((w4.setCell ⟨g, L.length * 5 + 4, none⟩ (.slice (some ⟨gv, 0, none⟩) (f1.ins.length + 1) vc)).setCell ⟨gv, f1.ins.length * 4, none⟩ (.int .i64 f2.tok.kind)).setCell ⟨gv, f1.ins.length * 4 + 1, none⟩ (.string f2.tok.word)).setCell ⟨gv, f1.ins.length * 4 + 2, none⟩ (.string f2.tok.unit)).setCell ⟨gv, f1.ins.length * 4 + 3, none⟩ (.slice a2 f2.ins.length c2)) v' (L ++ [f]) ∧ f.tok = f1.tok ∧ f.ins = f1.ins ++ [.mk f2.tok f2.ins] ∧ Below base w (((((w4.setCell ⟨g, L.length * 5 + 4, none⟩ (.slice (some ⟨gv, 0, none⟩) (f1.ins.length + 1) vc)).setCell ⟨gv, f1.ins.length * 4, none⟩ (.int .i64 f2.tok.kind)).setCell ⟨gv, f1.ins.length * 4 + 1, none⟩ (.string f2.tok.word)).setCell ⟨gv, f1.ins.length * 4 + 2, none⟩ (.string f2.tok.unit)).setCell ⟨gv, f1.ins.length * 4 + 3, none⟩ (.slice a2 f2.ins.length c2))) := by
    intro gv vc X w4 hown hgr hat
    have hgvb : base ≤ gv := (hown.lt gv rfl).1
    have hlo : ∀ rr, Value.ownBlock (.slice ka f1.ins.length kc) = some rr → base ≤ rr := fun rr hr => (O2.out.lt rr hr).1
    refine ⟨_, _, rfl, A2.out.put (W := w2.drew.alloc X) rfl (.mk f2.tok f2.ins) _ ⟨S2.out, HOK.out⟩ ?_ ?_ hown ?_ ?_, rfl, rfl, ?_⟩
    · simp
    · exact fun k hk => Below.heap_alloc _ _ _ hk
    · rw [e1]; exact hgr
    · rw [e1]; exact hat
    · exact (((((((B2.out.drew.alloc (by have := hgb.1; have := hgb.2; show base ≤ w2.heap.size; omega) X).grown hgr (by simp; omega) hlo).setCell hgb.1 _).setCell hgvb _).setCell hgvb _).setCell hgvb _).setCell hgvb _)
  go_region_law (refine step_append_own_at rfl (.tmp 24) (.tmp 31) 128 rfl base 199 iT (.agg #[.int .i64 0, .string ⟨#[]⟩, .string ⟨#[]⟩, .slice none 0 0]) 4 64 Tryz.underlying128 HI.out.1 HI.out.2.1 HI.out.2.2.1 HI.out.2.2.2 rfl (by omega) (.slice ka f1.ins.length kc) f1.ins.length f1.cs (by first | (simp [Act.eval]; done) | simp [Act.eval, Act.put]) (O2.out.drew.alloc _) ⟨w2.heap.size, 0, none⟩ 1 1 [.int .i64 0, .string ⟨#[]⟩, .string ⟨#[]⟩, .slice none 0 0] (by first | (simp [Act.eval]; done) | simp [Act.eval, Act.put]) rfl (new4 _ _ _ _ _ _) (by simp [Value.oneCell']) (by unfold maxLen; omega) (by omega) (by simp; omega) ?_; intro v4 w4 hown4 hgr4 hat4; obtain ⟨gv, vc, e4⟩ := own_sme hown4; subst e4; have hgo4 : w4.heap[g]? = w2.heap[g]? := (hgr4.block g (by simp; omega) hap).trans (Below.heap_alloc _ _ _ hgb.2); have hcv4 : w4.cell? ⟨g, L.length * 5 + 4, none⟩ = some (.slice ka f1.ins.length kc) := (World.cell?_of_block (w := w2) (a := ⟨g, L.length * 5 + 4, none⟩) hgo4).trans hf; have hfz4 : w4.frozen? ⟨g, L.length * 5 + 4, none⟩ = false := (World.frozen?_of_block (w := w2) (a := ⟨g, L.length * 5 + 4, none⟩) hgo4).trans hz4; have hgvn : ¬ gv = g := (fun e => by subst e; rcases hat4 with e2 | e2; exact hap e2; (simp [Value.ownBlock] at e2; omega)); have hgvn2 : ¬ g = gv := (fun e => hgvn e.symm); obtain ⟨e0, e1, e2, e3⟩ := own_tail hown4 HCL.out; have k0 := hown4.frozenAt (f1.ins.length * 4); have k1 := hown4.frozenAt (f1.ins.length * 4 + 1); have k2 := hown4.frozenAt (f1.ins.length * 4 + 2); have k3 := hown4.frozenAt (f1.ins.length * 4 + 3))
  all_goals
    have HB4 := FINB.out _ _ _ _ hown4 hgr4 hat4
    have HC4 := put_comm w4 (g := g) (gv := gv) (o := L.length * 5 + 4) (a0 := f1.ins.length * 4) (a1 := f1.ins.length * 4 + 1) (a2 := f1.ins.length * 4 + 2) (a3 := f1.ins.length * 4 + 3) hgvn (.slice (some ⟨gv, 0, none⟩) (f1.ins.length + 1) vc) (.int .i64 f2.tok.kind) (.string f2.tok.word) (.string f2.tok.unit) (.slice a2 f2.ins.length c2)
    obtain ⟨W5, hW5⟩ : ∃ W5, (((((w4.setCell ⟨g, L.length * 5 + 4, none⟩ (.slice (some ⟨gv, 0, none⟩) (f1.ins.length + 1) vc)).setCell ⟨gv, f1.ins.length * 4, none⟩ (.int .i64 f2.tok.kind)).setCell ⟨gv, f1.ins.length * 4 + 1, none⟩ (.string f2.tok.word)).setCell ⟨gv, f1.ins.length * 4 + 2, none⟩ (.string f2.tok.unit)).setCell ⟨gv, f1.ins.length * 4 + 3, none⟩ (.slice a2 f2.ins.length c2)) = W5 := ⟨_, rfl⟩
    rw [hW5] at HB4 HC4
    first
    | rw [hW5]
    | rw [HC4]
    clear HC4 hW5 hown4 hgr4 hat4 e0 e1 e2 e3 k0 k1 k2 k3
    obtain ⟨v', f, e5, h5, h6, h7, h8⟩ := HB4
    have H5 : Hid (Stk base W5 v' (L ++ [f])) := h5
    clear h5
    subst e5
    go_wp2_with fail
    go_ret
    exact ⟨_, f, rfl, H5.out, h6, h7, h8⟩
end Go.Proofs.YtlliliddljkbfaaGreat
