import Derived.Test.YtlliliddljkbfaaGreatC2
import Derived.Test.YtlliliddljkbfaaGreatC26
import Derived.Test.YtlliliddljkbfaaGreatC28
import Derived.Maps.Keyed
import Derived.MapKept
namespace Go.Proofs.YtlliliddljkbfaaGreat
set_option maxHeartbeats 64000000
set_option maxRecDepth 100000
open Go.RowKit Sp
open Go.Maps (Keyed)
open Go.ChangeMaps (setBlock modify_eq_set)
def MapF (k : TypeId) (w : World) (b : Nat) (m : Value → Option Value) : Prop :=
  ∃ es clock, w.heap[b]? = some (.map es clock) ∧ (∀ x ∈ es.toList, ∃ l, keyOf Tryz.prog k x.key = some l) ∧ (∀ x ∈ es.toList, m x.key = some x.val) ∧ (∀ q v, m q = some v → ∃ x ∈ es.toList, x.key = q) ∧ es.toList.Pairwise (fun x y => x.key ≠ y.key)
theorem MapF.new (k : TypeId) (w : World) : MapF k (w.alloc (.map #[] 0)) w.heap.size (fun _ => none) :=
  ⟨#[], 0, heap_alloc_new w _, by simp, by simp, by simp, by simp⟩
theorem MapF.lt {k : TypeId} {w : World} {b : Nat} {m : Value → Option Value} (h : MapF k w b m) : b < w.heap.size := by
  obtain ⟨es, c, h1, _⟩ := h
  exact (Array.getElem?_eq_some_iff.1 h1).1
theorem MapF.keep {k : TypeId} {w w' : World} {b : Nat} {m : Value → Option Value} (h : MapF k w b m) (hb : w'.heap[b]? = w.heap[b]?) : MapF k w' b m := by
  obtain ⟨es, c, h1, h2⟩ := h
  exact ⟨es, c, hb.trans h1, h2⟩
theorem MapF.look {k t e : TypeId} {w : World} {b : Nat} {m : Value → Option Value} (h : MapF k w b m) (K : Keyed Tryz.prog k) (ht : Tryz.prog.underlying t = some (.map k e)) {z : Value} (hz : (zeroValue e).run Tryz.prog w = .ok z w) {key : Value} {l : Lit} (hk : keyOf Tryz.prog k key = some l) :
    (Instr.lookup t (.map (some b)) key true).run Tryz.prog w = .ok (.tuple #[(m key).getD z, .bool (m key).isSome]) w := by
  obtain ⟨es, c, h1, h2, h3, h4, h5⟩ := h
  rcases K.find w hk es.toList h2 with ⟨hf, hn⟩ | ⟨j, e0, hf, hj, he⟩
  · have hm : m key = none := by
      cases hq : m key with
      | none => rfl
      | some v => obtain ⟨x, hx, e⟩ := h4 _ _ hq; exact absurd e (hn x hx)
    rw [hm]
    simp [Instr.lookup, run_underlying ht, MapKept.run_getObj_map h1, K.check w _ hk, hf, hz, Result.andThen]
  · have hm : m key = some e0.val := by rw [← he]; exact h3 e0 (List.mem_of_getElem? hj)
    rw [hm]
    simp [Instr.lookup, run_underlying ht, MapKept.run_getObj_map h1, K.check w _ hk, hf, Result.andThen]
theorem MapF.upd {k t e : TypeId} {w : World} {b : Nat} {m m' : Value → Option Value} (h : MapF k w b m) (K : Keyed Tryz.prog k) (ht : Tryz.prog.underlying t = some (.map k e)) {key val : Value} {l : Lit} (hk : keyOf Tryz.prog k key = some l) (h1' : m' key = some val) (h2' : ∀ q, q ≠ key → m' q = m q) :
    ∃ o, (Instr.mapUpdate t (.map (some b)) key val).run Tryz.prog w = .ok () (setBlock w b o) ∧ MapF k (setBlock w b o) b m' := by
  have hlt := h.lt
  obtain ⟨es, c, h1, h2, h3, h4, h5⟩ := h
  have hnew : ∀ o, (setBlock w b o).heap[b]? = some o := fun o => by
    show (w.heap.setIfInBounds b o)[b]? = _
    simp [hlt]
  rcases K.find w hk es.toList h2 with ⟨hf, hn⟩ | ⟨j, e0, hf, hj, he⟩
  · refine ⟨.map (es.push ⟨key, val, c⟩) (c + 1), ?_, es.push ⟨key, val, c⟩, c + 1, hnew _, ?_, ?_, ?_, ?_⟩
    · simp [Instr.mapUpdate, run_underlying ht, MapKept.run_getObj_map h1, K.check w false hk, hf, MapKept.run_setObj_map _ h1, Result.andThen, setBlock]
    · intro x hx
      simp only [Array.toList_push, List.mem_append, List.mem_singleton] at hx
      rcases hx with hx | rfl
      · exact h2 x hx
      · exact ⟨l, hk⟩
    · intro x hx
      simp only [Array.toList_push, List.mem_append, List.mem_singleton] at hx
      rcases hx with hx | rfl
      · rw [h2' _ (hn x hx)]; exact h3 x hx
      · exact h1'
    · intro q v hq
      simp only [Array.toList_push, List.mem_append, List.mem_singleton]
      by_cases e1 : q = key
      · exact ⟨_, Or.inr rfl, e1.symm⟩
      · rw [h2' _ e1] at hq
        obtain ⟨x, hx, e2⟩ := h4 _ _ hq
        exact ⟨x, Or.inl hx, e2⟩
    · rw [Array.toList_push, List.pairwise_append]
      refine ⟨h5, by simp, fun x hx y hy => ?_⟩
      rw [List.mem_singleton.1 hy]
      exact hn x hx
  · have hj' : es[j]? = some e0 := by simpa using hj
    have hjl : j < es.toList.length := (List.getElem?_eq_some_iff.1 hj).1
    have hlist : (es.modify j (fun e' => { e' with key := key, val := val })).toList = es.toList.set j { e0 with key := key, val := val } := by rw [Array.toList_modify, modify_eq_set _ _ _ _ hj]
    have oth : ∀ i x, i ≠ j → es.toList[i]? = some x → x.key ≠ key := by
      intro i x hij hx e1
      have hp := List.pairwise_iff_getElem.1 h5
      obtain ⟨hil, ex⟩ := List.getElem?_eq_some_iff.1 hx
      obtain ⟨_, ej⟩ := List.getElem?_eq_some_iff.1 hj
      rcases Nat.lt_or_gt_of_ne hij with hlt2 | hgt
      · exact hp i j hil hjl hlt2 (by rw [ex, ej, e1, he])
      · exact hp j i hjl hil hgt (by rw [ex, ej, e1, he])
    have who : ∀ x ∈ es.toList.set j { e0 with key := key, val := val }, x = { e0 with key := key, val := val } ∨ (x ∈ es.toList ∧ x.key ≠ key) := by
      intro x hx
      obtain ⟨i, hi, ex⟩ := List.getElem_of_mem hx
      rw [List.getElem_set] at ex
      split at ex
      · exact Or.inl ex.symm
      · rename_i hne
        have hi' : i < es.toList.length := by simpa using hi
        exact Or.inr ⟨ex ▸ List.getElem_mem hi', oth i x (fun e1 => hne e1.symm) (by rw [List.getElem?_eq_getElem hi', ex])⟩
    refine ⟨.map (es.modify j (fun e' => { e' with key := key, val := val })) c, ?_, _, c, hnew _, ?_, ?_, ?_, ?_⟩
    · simp [Instr.mapUpdate, run_underlying ht, MapKept.run_getObj_map h1, K.check w false hk, hf, hj', he, K.stays w hk, MapKept.run_setObj_map _ h1, Result.andThen, setBlock]
    · intro x hx
      rw [hlist] at hx
      rcases who x hx with rfl | ⟨hx, _⟩
      · exact ⟨l, hk⟩
      · exact h2 x hx
    · intro x hx
      rw [hlist] at hx
      rcases who x hx with rfl | ⟨hx, hne⟩
      · exact h1'
      · rw [h2' _ hne]; exact h3 x hx
    · intro q v hq
      rw [hlist]
      by_cases e1 : q = key
      · exact ⟨{ e0 with key := key, val := val }, List.mem_iff_getElem.2 ⟨j, by simpa using hjl, by simp⟩, e1.symm⟩
      · rw [h2' _ e1] at hq
        obtain ⟨x, hx, e2⟩ := h4 _ _ hq
        obtain ⟨i, hi, ex⟩ := List.getElem_of_mem hx
        have hne : i ≠ j := by
          rintro rfl
          have := (List.getElem?_eq_some_iff.1 hj).2
          rw [ex] at this
          exact e1 (by rw [← e2, this, he])
        exact ⟨x, List.mem_iff_getElem.2 ⟨i, by simpa using hi, by rw [List.getElem_set_ne (fun e3 => hne e3.symm)]; exact ex⟩, e2⟩
    · rw [hlist]
      rw [List.pairwise_iff_getElem]
      intro a b' ha hb' hab
      have hp := List.pairwise_iff_getElem.1 h5
      have ha' : a < es.toList.length := by simpa using ha
      have hb2 : b' < es.toList.length := by simpa using hb'
      rw [List.getElem_set, List.getElem_set]
      split
      · rename_i e1
        subst e1
        rw [if_neg (by omega)]
        exact fun e2 => oth b' _ (by omega) (List.getElem?_eq_getElem hb2) e2.symm
      · rename_i e1
        split
        · exact oth a _ (fun e3 => e1 e3.symm) (List.getElem?_eq_getElem ha')
        · exact hp a b' ha' hb2 hab
open Go.ChangeMaps (setBlock)
open Go.Maps (Keyed string_keyed)
structure Win where
  pr : ByteArray
  val : List Nd
  imp : Bool
  wt : Wgt
def wnV (x : Win) (v : Value) : Value := .agg #[.string x.pr, v, .bool x.imp, .int .i64 (x.wt.1 : Int), .int .i64 (x.wt.2.1 : Int), .int .i64 (x.wt.2.2 : Int)]
def btW (a b : Win) : Bool := if a.imp = b.imp then decide (0 ≤ cmpW a.wt b.wt) else a.imp
def Wn (w : World) (b : Nat) (x : Win) (v : Value) : Prop := w.heap[b]? = some (.cells #[.string x.pr, v, .bool x.imp, .int .i64 (x.wt.1 : Int), .int .i64 (x.wt.2.1 : Int), .int .i64 (x.wt.2.2 : Int)] 184 (0, 0))
theorem Wn.cs {w : World} {b : Nat} {x : Win} {v : Value} (h : Wn w b x v) : w.cell? ⟨b, 0, none⟩ = some (.string x.pr) ∧ w.cell? ⟨b, 1, none⟩ = some v ∧ w.cell? ⟨b, 2, none⟩ = some (.bool x.imp) ∧ w.cell? ⟨b, 3, none⟩ = some (.int .i64 (x.wt.1 : Int)) ∧ w.cell? ⟨b, 4, none⟩ = some (.int .i64 (x.wt.2.1 : Int)) ∧ w.cell? ⟨b, 5, none⟩ = some (.int .i64 (x.wt.2.2 : Int)) := by
  have h' : w.heap[b]? = _ := h
  refine ⟨?_, ?_, ?_, ?_, ?_, ?_⟩ <;> (unfold World.cell?; rw [h']; rfl)
theorem Wn.lt {w : World} {b : Nat} {x : Win} {v : Value} (h : Wn w b x v) : b < w.heap.size := (Array.getElem?_eq_some_iff.1 h).1
theorem Wn.new (w : World) (x : Win) (v : Value) : Wn (w.alloc (.cells #[.string x.pr, v, .bool x.imp, .int .i64 (x.wt.1 : Int), .int .i64 (x.wt.2.1 : Int), .int .i64 (x.wt.2.2 : Int)] 184)) w.heap.size x v := heap_alloc_new w _
theorem Wn.below {w w' : World} {b : Nat} {x : Win} {v : Value} (h : Wn w b x v) (hb : Below w.heap.size w w') : Wn w' b x v := by
  show _ = _; rw [hb.block _ h.lt]; exact h
theorem beats_c (x y : Win) (va : Option Addr) (vl vc : Nat) (ua : Option Addr) (ul uc : Nat) (w : World) :
    Calls Tryz.prog 160 #[wnV x (.slice va vl vc), wnV y (.slice ua ul uc)] w fun ex w' => ex = .returned (.bool (btW x y)) ∧ Below w.heap.size w w' := by
  unfold wnV
  have A0 : Hid (Wn ((w.alloc (.cells #[.string x.pr, .slice va vl vc, .bool x.imp, .int .i64 (x.wt.1 : Int), .int .i64 (x.wt.2.1 : Int), .int .i64 (x.wt.2.2 : Int)] 184)).alloc (.cells #[.string y.pr, .slice ua ul uc, .bool y.imp, .int .i64 (y.wt.1 : Int), .int .i64 (y.wt.2.1 : Int), .int .i64 (y.wt.2.2 : Int)] 184)) w.heap.size x (.slice va vl vc)) := (Wn.new w x _).below ((Below.refl _ _).alloc (Nat.le_refl _) _)
  have A1 : Hid (Wn ((w.alloc (.cells #[.string x.pr, .slice va vl vc, .bool x.imp, .int .i64 (x.wt.1 : Int), .int .i64 (x.wt.2.1 : Int), .int .i64 (x.wt.2.2 : Int)] 184)).alloc (.cells #[.string y.pr, .slice ua ul uc, .bool y.imp, .int .i64 (y.wt.1 : Int), .int .i64 (y.wt.2.1 : Int), .int .i64 (y.wt.2.2 : Int)] 184)) (w.heap.size + 1) y (.slice ua ul uc)) := by
    have := Wn.new (w.alloc (.cells #[.string x.pr, .slice va vl vc, .bool x.imp, .int .i64 (x.wt.1 : Int), .int .i64 (x.wt.2.1 : Int), .int .i64 (x.wt.2.2 : Int)] 184)) y (.slice ua ul uc)
    show Wn _ _ _ _
    simpa using this
  have B0 : Hid (Below w.heap.size w ((w.alloc (.cells #[.string x.pr, .slice va vl vc, .bool x.imp, .int .i64 (x.wt.1 : Int), .int .i64 (x.wt.2.1 : Int), .int .i64 (x.wt.2.2 : Int)] 184)).alloc (.cells #[.string y.pr, .slice ua ul uc, .bool y.imp, .int .i64 (y.wt.1 : Int), .int .i64 (y.wt.2.1 : Int), .int .i64 (y.wt.2.2 : Int)] 184))) := ((Below.refl _ _).alloc (Nat.le_refl _) _).alloc (by simp) _
  obtain ⟨xi, Hxi⟩ : ∃ b, Hid (x.imp = b) := ⟨_, hid rfl⟩
  obtain ⟨yi, Hyi⟩ : ∃ b, Hid (y.imp = b) := ⟨_, hid rfl⟩
  have HV : Hid (btW x y = if xi = yi then decide (0 ≤ cmpW x.wt y.wt) else xi) := by show _ = _; unfold btW; rw [Hxi.out, Hyi.out]
  go_enter Tryz.func160, Tryz.ntmps160
  go_upto_region 1 with fail
  generalize (w.alloc (.cells #[.string x.pr, .slice va vl vc, .bool x.imp, .int .i64 (x.wt.1 : Int), .int .i64 (x.wt.2.1 : Int), .int .i64 (x.wt.2.2 : Int)] 184)).alloc (.cells #[.string y.pr, .slice ua ul uc, .bool y.imp, .int .i64 (y.wt.1 : Int), .int .i64 (y.wt.2.1 : Int), .int .i64 (y.wt.2.2 : Int)] 184) = w2 at *
  obtain ⟨a0, a1, a2, a3, a4, a5⟩ := A0.out.cs
  obtain ⟨c0, c1, c2, c3, c4, c5⟩ := A1.out.cs
  rw [Hxi.out] at a2
  rw [Hyi.out] at c2
  have hsz := B0.out.size
  cases xi <;> cases yi
  · go_wp2_with fail
    refine (wcmp_c (x.wt.1 : Int) (x.wt.2.1 : Int) (x.wt.2.2 : Int) (y.wt.1 : Int) (y.wt.2.1 : Int) (y.wt.2.2 : Int) _).mono ?_
    rintro ex w3 ⟨rfl, hb3⟩
    have B3 : Hid (Below w.heap.size w w3) := B0.out.trans (hb3.mono hsz)
    clear hb3
    have HV' : Hid (btW x y = decide (0 ≤ cmp3 (x.wt.1 : Int) (x.wt.2.1 : Int) (x.wt.2.2 : Int) (y.wt.1 : Int) (y.wt.2.1 : Int) (y.wt.2.2 : Int))) := HV.out
    go_wp2_with fail
    go_ret
    exact ⟨by rw [HV'.out]; rfl, B3.out⟩
  · go_wp2_with fail
    go_ret
    exact ⟨by rw [HV.out]; rfl, B0.out⟩
  · go_wp2_with fail
    go_ret
    exact ⟨by rw [HV.out]; rfl, B0.out⟩
  · go_wp2_with fail
    refine (wcmp_c (x.wt.1 : Int) (x.wt.2.1 : Int) (x.wt.2.2 : Int) (y.wt.1 : Int) (y.wt.2.1 : Int) (y.wt.2.2 : Int) _).mono ?_
    rintro ex w3 ⟨rfl, hb3⟩
    have B3 : Hid (Below w.heap.size w w3) := B0.out.trans (hb3.mono hsz)
    clear hb3
    have HV' : Hid (btW x y = decide (0 ≤ cmp3 (x.wt.1 : Int) (x.wt.2.1 : Int) (x.wt.2.2 : Int) (y.wt.1 : Int) (y.wt.2.1 : Int) (y.wt.2.2 : Int))) := HV.out
    go_wp2_with fail
    go_ret
    exact ⟨by rw [HV'.out]; rfl, B3.out⟩
open Go.ChangeMaps (setBlock)
open Go.Maps (Keyed string_keyed)
def WinM (B : Nat) (w : World) (b : Nat) (f : ByteArray → Option Win) : Prop :=
  ∃ m, MapF 9 w b m ∧ ∀ s, match f s with | none => m (.string s) = none | some x => x.pr = s ∧ ∃ va vc, m (.string s) = some (wnV x (.slice va x.val.length vc)) ∧ Sl (fun g => g < B) w (.slice va x.val.length vc) x.val
def entW (f : ByteArray → Option Win) (x : Win) : ByteArray → Option Win := fun s => if s = x.pr then (match f x.pr with | none => some x | some y => if btW x y = true then some x else some y) else f s
theorem WinM.none {B : Nat} {w : World} {b : Nat} (h : MapF 9 w b (fun _ => .none)) : WinM B w b (fun _ => .none) := ⟨_, h, fun _ => rfl⟩
theorem WinM.lt {B : Nat} {w : World} {b : Nat} {f : ByteArray → Option Win} (h : WinM B w b f) : b < w.heap.size := by
  obtain ⟨m, h1, _⟩ := h; exact h1.lt
theorem WinM.keep {B : Nat} {w w' : World} {b : Nat} {f : ByteArray → Option Win} (h : WinM B w b f) (hb : Below B w w') (he : w'.heap[b]? = w.heap[b]?) : WinM B w' b f := by
  obtain ⟨m, h1, h2⟩ := h
  refine ⟨m, h1.keep he, fun s => ?_⟩
  have h3 := h2 s
  cases hf : f s with
  | none => rw [hf] at h3; exact h3
  | some x =>
    rw [hf] at h3
    obtain ⟨e, va, vc, h4, h5⟩ := h3
    exact ⟨e, va, vc, h4, h5.below hb (Nat.le_refl _)⟩
theorem keyed_str : Keyed Tryz.prog 9 := string_keyed Tryz.underlying9
theorem zero_win (w : World) : (zeroValue 184).run Tryz.prog w = .ok (.agg #[.string ⟨#[]⟩, .slice none 0 0, .bool false, .int .i64 0, .int .i64 0, .int .i64 0]) w := by kernel_rfl
theorem key_str {s : ByteArray} (h : s.size ≤ 4000000) : keyOf Tryz.prog 9 (.string s) = some (.string s.data.toList) := WideMaps.keyOf_string_mk Tryz.underlying9 (by unfold maxLen; omega)
theorem string_inj {a b : ByteArray} (h : (.string a : Value) = .string b) : a = b := by cases h; rfl
theorem WinM.upd {B : Nat} {w : World} {b : Nat} {f f' : ByteArray → Option Win} {x : Win} {va : Option Addr} {vc : Nat} (h : WinM B w b f) (hB : B ≤ b) (hx : Sl (fun g => g < B) w (.slice va x.val.length vc) x.val) (hp : x.pr.size ≤ 4000000)
    (h1 : f' x.pr = some x) (h2 : ∀ s, s ≠ x.pr → f' s = f s) :
    ∃ o, (Instr.mapUpdate 127 (.map (some b)) (.string x.pr) (wnV x (.slice va x.val.length vc))).run Tryz.prog w = .ok () (setBlock w b o) ∧ WinM B (setBlock w b o) b f' := by
  obtain ⟨m, hm, hf⟩ := h
  have hlt := hm.lt
  open Classical in
  obtain ⟨o, hr, hm'⟩ := hm.upd (m' := fun q => if q = .string x.pr then some (wnV x (.slice va x.val.length vc)) else m q) keyed_str Tryz.underlying127 (key_str hp) (if_pos rfl) (fun q hq => if_neg hq)
  have hbl : Below B w (setBlock w b o) := ⟨rfl, rfl, rfl, by show _ ≤ (w.heap.setIfInBounds b o).size; simp, fun g hg => by
    show (w.heap.setIfInBounds b o)[g]? = _
    rw [Array.getElem?_setIfInBounds_ne (by omega)]⟩
  refine ⟨o, hr, _, hm', fun s => ?_⟩
  by_cases e : s = x.pr
  · subst e
    rw [h1]
    exact ⟨rfl, va, vc, if_pos rfl, hx.below hbl (Nat.le_refl _)⟩
  · rw [h2 s e]
    have h3 := hf s
    have hne : ¬ (Value.string s = .string x.pr) := fun h => e (string_inj h)
    cases hq : f s with
    | none => rw [hq] at h3; exact (if_neg hne).trans h3
    | some y =>
      rw [hq] at h3
      obtain ⟨e1, va', vc', h4, h5⟩ := h3
      exact ⟨e1, va', vc', (if_neg hne).trans h4, h5.below hbl (Nat.le_refl _)⟩
theorem turn_block {mb : Nat} {w w2 : World} {o : Obj} (h : Below w.heap.size w w2) : Turn mb w (setBlock w2 mb o) :=
  ⟨h.os, h.tape, h.output, by show _ ≤ (w2.heap.setIfInBounds mb o).size; simpa using h.size, fun g hg hne => by
    show (w2.heap.setIfInBounds mb o)[g]? = _
    rw [Array.getElem?_setIfInBounds_ne (fun e => hne e.symm)]; exact h.block g hg⟩
theorem enter_c (B : Nat) (f : ByteArray → Option Win) (mb : Nat) (x : Win) (va : Option Addr) (vc : Nat) (w : World) (h : WinM B w mb f) (hB : B ≤ mb) (hx : Sl (fun g => g < B) w (.slice va x.val.length vc) x.val) (hp : x.pr.size ≤ 4000000) :
    Calls Tryz.prog 95 #[.map (some mb), wnV x (.slice va x.val.length vc)] w fun ex w' => ex = .returned (.tuple #[]) ∧ WinM B w' mb (entW f x) ∧ Turn mb w w' := by
  have hml := h.lt
  have B0 : Hid (Below w.heap.size w (w.alloc (.cells #[.string x.pr, .slice va x.val.length vc, .bool x.imp, .int .i64 (x.wt.1 : Int), .int .i64 (x.wt.2.1 : Int), .int .i64 (x.wt.2.2 : Int)] 184))) := (Below.refl _ _).alloc (Nat.le_refl _) _
  have A0 : Hid (Wn (w.alloc (.cells #[.string x.pr, .slice va x.val.length vc, .bool x.imp, .int .i64 (x.wt.1 : Int), .int .i64 (x.wt.2.1 : Int), .int .i64 (x.wt.2.2 : Int)] 184)) w.heap.size x (.slice va x.val.length vc)) := Wn.new _ _ _
  have M0 : Hid (WinM B (w.alloc (.cells #[.string x.pr, .slice va x.val.length vc, .bool x.imp, .int .i64 (x.wt.1 : Int), .int .i64 (x.wt.2.1 : Int), .int .i64 (x.wt.2.2 : Int)] 184)) mb f) := h.keep (B0.out.mono (by omega)) (B0.out.block _ hml)
  have HX : Hid (Sl (fun g => g < B) (w.alloc (.cells #[.string x.pr, .slice va x.val.length vc, .bool x.imp, .int .i64 (x.wt.1 : Int), .int .i64 (x.wt.2.1 : Int), .int .i64 (x.wt.2.2 : Int)] 184)) (.slice va x.val.length vc) x.val) := hx.below B0.out (by omega)
  clear h hx
  unfold wnV
  go_enter Tryz.func95, Tryz.ntmps95
  go_upto_region 1 with fail
  generalize w.alloc (.cells #[.string x.pr, .slice va x.val.length vc, .bool x.imp, .int .i64 (x.wt.1 : Int), .int .i64 (x.wt.2.1 : Int), .int .i64 (x.wt.2.2 : Int)] 184) = w1 at *
  obtain ⟨nb, Hnb⟩ : ∃ nb, Hid (w.heap.size = nb) := ⟨_, hid rfl⟩
  rw [Hnb.out] at A0
  rw [Hnb.out]
  obtain ⟨a0, a1, a2, a3, a4, a5⟩ := A0.out.cs
  obtain ⟨m, hm, hf⟩ := M0.out
  have hlk := hm.look keyed_str Tryz.underlying127 (zero_win w1) (key_str hp)
  have hfx := hf x.pr
  cases hfp : f x.pr with
  | none =>
    rw [hfp] at hfx
    have hfx' : m (.string x.pr) = none := hfx
    rw [hfx'] at hlk
    clear hf hfx hfx' hm
    have B1 : Hid (Below w1.heap.size w1 (w1.alloc (.cells #[.string ⟨#[]⟩, .slice none 0 0, .bool false, .int .i64 0, .int .i64 0, .int .i64 0] 184))) := (Below.refl _ _).alloc (Nat.le_refl _) _
    go_upto_region 2 with fail
    generalize w1.alloc (.cells #[.string ⟨#[]⟩, .slice none 0 0, .bool false, .int .i64 0, .int .i64 0, .int .i64 0] 184) = w2 at *
    have A2 : Hid (Wn w2 nb x (.slice va x.val.length vc)) := A0.out.below B1.out
    have BW : Hid (Below w.heap.size w w2) := B0.out.trans (B1.out.mono B0.out.size)
    have M2 : Hid (WinM B w2 mb f) := M0.out.keep (B1.out.mono (by have := B0.out.size; omega)) (B1.out.block _ (by have := B0.out.size; omega))
    have HX2 : Hid (Sl (fun g => g < B) w2 (.slice va x.val.length vc) x.val) := HX.out.below B1.out (by have := B0.out.size; omega)
    clear a0 a1 a2 a3 a4 a5 hlk
    obtain ⟨a0, a1, a2, a3, a4, a5⟩ := A2.out.cs
    obtain ⟨o, hr, hM⟩ := M2.out.upd (f' := entW f x) hB HX2.out hp (by unfold entW; rw [if_pos rfl, hfp]) (fun s hs => by unfold entW; rw [if_neg hs])
    unfold wnV at hr
    have HE : Hid (WinM B (setBlock w2 mb o) mb (entW f x)) := hM
    have HT : Hid (Turn mb w (setBlock w2 mb o)) := turn_block BW.out
    clear hM
    go_wp2_with fail
    go_end0
    exact ⟨rfl, HE.out, HT.out⟩
  | some y =>
    rw [hfp] at hfx
    obtain ⟨epr, ya, yc, hfx', hys⟩ := hfx
    rw [hfx'] at hlk
    have EPR : Hid (y.pr = x.pr) := epr
    clear epr
    unfold wnV at hlk
    simp only [Option.getD_some, Option.isSome_some] at hlk
    clear hf hfx' hm
    have B1 : Hid (Below w1.heap.size w1 (w1.alloc (.cells #[.string y.pr, .slice ya y.val.length yc, .bool y.imp, .int .i64 (y.wt.1 : Int), .int .i64 (y.wt.2.1 : Int), .int .i64 (y.wt.2.2 : Int)] 184))) := (Below.refl _ _).alloc (Nat.le_refl _) _
    have Y2 : Hid (Wn (w1.alloc (.cells #[.string y.pr, .slice ya y.val.length yc, .bool y.imp, .int .i64 (y.wt.1 : Int), .int .i64 (y.wt.2.1 : Int), .int .i64 (y.wt.2.2 : Int)] 184)) w1.heap.size y (.slice ya y.val.length yc)) := Wn.new _ _ _
    go_upto_region 2 with fail
    generalize w1.alloc (.cells #[.string y.pr, .slice ya y.val.length yc, .bool y.imp, .int .i64 (y.wt.1 : Int), .int .i64 (y.wt.2.1 : Int), .int .i64 (y.wt.2.2 : Int)] 184) = w2 at *
    have A2 : Hid (Wn w2 nb x (.slice va x.val.length vc)) := A0.out.below B1.out
    have BW : Hid (Below w.heap.size w w2) := B0.out.trans (B1.out.mono B0.out.size)
    have M2 : Hid (WinM B w2 mb f) := M0.out.keep (B1.out.mono (by have := B0.out.size; omega)) (B1.out.block _ (by have := B0.out.size; omega))
    have HX2 : Hid (Sl (fun g => g < B) w2 (.slice va x.val.length vc) x.val) := HX.out.below B1.out (by have := B0.out.size; omega)
    have hs2 := BW.out.size
    clear a0 a1 a2 a3 a4 a5 hlk hys
    obtain ⟨a0, a1, a2, a3, a4, a5⟩ := A2.out.cs
    obtain ⟨c0, c1, c2, c3, c4, c5⟩ := Y2.out.cs
    go_wp2_with fail
    refine (beats_c x y va x.val.length vc ya y.val.length yc _).mono ?_
    obtain ⟨b, Hb⟩ : ∃ b, Hid (btW x y = b) := ⟨_, hid rfl⟩
    rw [Hb.out]
    rintro ex w3 ⟨rfl, hb3⟩
    have A3 : Hid (Wn w3 nb x (.slice va x.val.length vc)) := A2.out.below hb3
    have BW3 : Hid (Below w.heap.size w w3) := BW.out.trans (hb3.mono hs2)
    have M3 : Hid (WinM B w3 mb f) := M2.out.keep (hb3.mono (by omega)) (hb3.block _ (by omega))
    have HX3 : Hid (Sl (fun g => g < B) w3 (.slice va x.val.length vc) x.val) := HX2.out.below hb3 (by omega)
    clear hb3 a0 a1 a2 a3 a4 a5 c0 c1 c2 c3 c4 c5
    obtain ⟨a0, a1, a2, a3, a4, a5⟩ := A3.out.cs
    cases b
    · have HE : Hid (entW f x = f) := by
        show _ = _
        funext s
        unfold entW
        by_cases e : s = x.pr
        · rw [if_pos e, hfp, e, hfp]
          show (if btW x y = true then some x else some y) = some y
          rw [Hb.out]; rfl
        · rw [if_neg e]
      have HT : Hid (Turn mb w w3) := Turn.of_below BW3.out
      go_wp2_with fail
      go_end0
      exact ⟨rfl, by rw [HE.out]; exact M3.out, HT.out⟩
    · obtain ⟨o, hr, hM⟩ := M3.out.upd (f' := entW f x) hB HX3.out hp (by unfold entW; rw [if_pos rfl, hfp]; show (if btW x y = true then some x else some y) = some x; rw [Hb.out]; rfl) (fun s hs => by unfold entW; rw [if_neg hs])
      unfold wnV at hr
      have HE : Hid (WinM B (setBlock w3 mb o) mb (entW f x)) := hM
      have HT : Hid (Turn mb w (setBlock w3 mb o)) := turn_block BW3.out
      clear hM
      go_wp2_with fail
      go_end0
      exact ⟨rfl, HE.out, HT.out⟩
end Go.Proofs.YtlliliddljkbfaaGreat
