import Derived.Test.YtlliliddljkbfaaGreatC17
import Derived.Test.YtlliliddljkbfaaGreatC25
namespace Go.Proofs.YtlliliddljkbfaaGreat
set_option maxHeartbeats 64000000
set_option maxRecDepth 100000
open Go.RowKit Sp
section
attribute [local go_sem] fld_tok fld_ins fld_kind fld_word
def Q3 (T : TypeId) (w : World) (b : Nat) (x0 x1 x2 : Value) : Prop := w.heap[b]? = some (.cells #[x0, x1, x2] T (0, 0))
section
variable {T : TypeId} {w w' : World} {b : Nat} {x0 x1 x2 : Value}
theorem Q3.lt (h : Q3 T w b x0 x1 x2) : b < w.heap.size := (Array.getElem?_eq_some_iff.1 h).1
theorem Q3.cs (h : Q3 T w b x0 x1 x2) : w.cell? ⟨b, 0, none⟩ = some x0 ∧ w.cell? ⟨b, 1, none⟩ = some x1 ∧ w.cell? ⟨b, 2, none⟩ = some x2 := by
  have h' : w.heap[b]? = _ := h
  refine ⟨?_, ?_, ?_⟩ <;> (unfold World.cell?; rw [h']; rfl)
theorem Q3.fz (h : Q3 T w b x0 x1 x2) (o : Nat) : w.frozen? ⟨b, o, none⟩ = false := by
  have h' : w.heap[b]? = _ := h
  unfold World.frozen?; rw [h']; simp
theorem Q3.below (h : Q3 T w b x0 x1 x2) (hb : Below w.heap.size w w') : Q3 T w' b x0 x1 x2 := by
  show _ = _; rw [hb.block b h.lt]; exact h
theorem Q3.new (T : TypeId) (w : World) (x0 x1 x2 : Value) : Q3 T (w.alloc (.cells #[x0, x1, x2] T)) w.heap.size x0 x1 x2 := heap_alloc_new w _
end
def set3 (w : World) (g : Nat) (a b c : Value) : World := ((w.setCell ⟨g, 0, none⟩ a).setCell ⟨g, 1, none⟩ b).setCell ⟨g, 2, none⟩ c
theorem set3_below {B g : Nat} {x w : World} (h : Below B x w) (hg : B ≤ g) (a b c : Value) : Below B x (set3 w g a b c) :=
  ((h.setCell hg _).setCell hg _).setCell hg _
theorem set3_other (w : World) {g k : Nat} (h : k ≠ g) (a b c : Value) : (set3 w g a b c).heap[k]? = w.heap[k]? := by
  unfold set3
  rw [Below.heap_setCell _ _ _ _ h, Below.heap_setCell _ _ _ _ h, Below.heap_setCell _ _ _ _ h]
theorem Q3.put {T : TypeId} {w : World} {b : Nat} {x0 x1 x2 : Value} (h : Q3 T w b x0 x1 x2) (y0 y1 y2 : Value) : Q3 T (set3 w b y0 y1 y2) b y0 y1 y2 := by
  have h' : w.heap[b]? = _ := h
  show _ = _
  simp only [set3, World.setCell, Array.getElem?_modify, h']
  simp
def dcP (B : Nat) (o : Option Dec) (w' : World) (e : Ending) : Prop :=
  match o with
  | none => e = .returned (.tuple #[.agg #[.string ⟨#[]⟩, .slice none 0 0, .bool false], .bool false])
  | some d => ∃ vv, e = .returned (.tuple #[.agg #[.string d.prop, vv, .bool d.imp], .bool true]) ∧ Sl (fun b => b < B) w' vv d.val ∧ d.prop.size ≤ 4000000
theorem small_size (s : ByteArray) : (small s).size = s.size := by
  show (s.data.toList.map smallB).toArray.size = s.data.size
  rw [List.size_toArray, List.length_map, Array.length_toList]
theorem propOf_size (p : ByteArray) : (propOf p).size = p.size := by
  unfold propOf
  split
  · rfl
  · exact small_size p
theorem declOf_kind {n : Nd} {r : List Nd} (h : (n.t.kind == 14) = false) : declOf (n :: r) = none := by
  unfold declOf
  simp only
  rw [if_pos (by simpa using h)]
theorem declOf_bare {n : Nd} {r : List Nd} (h : (n.t.kind == 14) = true) (hb : bare r = []) : declOf (n :: r) = none := by
  unfold declOf
  simp only
  rw [if_neg (by simpa using h), hb]
theorem declOf_sign {n c : Nd} {r q : List Nd} (h : (n.t.kind == 14) = true) (hb : bare r = c :: q) : declOf (n :: r) = if signT c.t (b1 58) = true then some ⟨propOf n.t.word, (cutImp (bare q)).1, (cutImp (bare q)).2⟩ else none := by
  unfold declOf
  simp only
  rw [if_neg (by simpa using h), hb]
  rfl
theorem readDeclaration_c (B : Nat) (l : List Nd) (v : Value) (w : World) (h : Sl (fun b => b < B) w v l) (hB : B ≤ w.heap.size) :
    Calls Tryz.prog 158 #[v] w fun e w' => dcP B (declOf l) w' e ∧ Below w.heap.size w w' := by
  have hl6 := h.len
  have HS : Hid (Sl (fun b => b < B) w v l) := h
  obtain ⟨a, cap, rfl⟩ := h.form
  clear h
  have R0 : Hid (Q3 181 (w.alloc (.cells #[.string ⟨#[]⟩, .slice none 0 0, .bool false] 181)) w.heap.size (.string ⟨#[]⟩) (.slice none 0 0) (.bool false)) := Q3.new _ _ _ _ _
  have B0 : Hid (Below w.heap.size w (w.alloc (.cells #[.string ⟨#[]⟩, .slice none 0 0, .bool false] 181))) := (Below.refl _ _).alloc (Nat.le_refl _) _
  go_enter Tryz.func158, Tryz.ntmps158
  go_upto_region 1 with fail
  have hsz0 := B0.out.size
  have hlt0 := R0.out.lt
  generalize w.alloc (.cells #[.string ⟨#[]⟩, .slice none 0 0, .bool false] 181) = w0 at *
  obtain ⟨rb, Hrb⟩ : ∃ rb, Hid (w.heap.size = rb) := ⟨_, hid rfl⟩
  rw [Hrb.out] at B0 R0 hB hlt0 hsz0 ⊢
  have S0 : Hid (Sl (fun b => b < B) w0 (.slice a l.length cap) l) := HS.out.below B0.out hB
  clear HS
  cases l with
  | nil =>
    have HV : Hid (declOf [] = none) := rfl
    have z0 := R0.out.fz 0
    have z1 := R0.out.fz 1
    have z2 := R0.out.fz 2
    obtain ⟨q0, q1, q2⟩ := R0.out.cs
    go_wp2_with fail
    refine bodyPost_ret (v := .tuple #[.agg #[.string ⟨#[]⟩, .slice none 0 0, .bool false], .bool false]) (by simp [results, Tryz.results158, go_sem, q0, q1, q2]) rfl ?_
    exact ⟨by rw [HV.out]; rfl, by rw [Hrb.out]; exact set3_below B0.out (Nat.le_refl _) _ _ _⟩
  | cons n r =>
    obtain ⟨g, o, nv, cap', hcv, hN, hcap⟩ := S0.out.head
    injection hcv with hcv1 _ hcv2
    subst hcv1 hcv2
    have hgB : g < B := hN.s
    have c0 := hN.c0
    have HNC : Hid (∀ wx, Below w0.heap.size w0 wx → wx.cell? ⟨g, o + 1, none⟩ = some (.string n.t.word)) := fun wx hb => by rw [hb.cell (p := ⟨g, _, none⟩) (show g < w0.heap.size by omega)]; exact hN.c1
    have hwd := hN.ok.word
    clear hN
    have h1 : ¬ ((r.length + 1 : Nat) : Int) = 0 := by omega
    have h1b : (((r.length + 1 : Nat) : Int) == 0) = false := by simpa using h1
    have h1c : ((r.length : Int) + 1 == 0) = false := by simp; omega
    cases hk : (n.t.kind == 14)
    · have HV : Hid (declOf (n :: r) = none) := declOf_kind hk
      have hkn : (n.t.kind != 14) = true := by rw [bne, hk]; rfl
      have z0 := R0.out.fz 0
      have z1 := R0.out.fz 1
      have z2 := R0.out.fz 2
      obtain ⟨q0, q1, q2⟩ := R0.out.cs
      go_wp2_with fail
      refine bodyPost_ret (v := .tuple #[.agg #[.string ⟨#[]⟩, .slice none 0 0, .bool false], .bool false]) (by simp [results, Tryz.results158, go_sem, q0, q1, q2]) rfl ?_
      exact ⟨by rw [HV.out]; rfl, by rw [Hrb.out]; exact set3_below B0.out (Nat.le_refl _) _ _ _⟩
    · have hkn : (n.t.kind != 14) = false := by rw [bne, hk]; rfl
      obtain ⟨a1, hr1, hS1⟩ := S0.out.cut1v
      have HS1 : Hid (Sl (fun b => b < B) w0 (.slice a1 r.length (cap - 1)) r) := hS1
      clear hS1
      go_wp2_with fail
      refine (Trim_c B r _ w0 HS1.out).mono ?_
      obtain ⟨b, Hb⟩ : ∃ b, Hid (bare r = b) := ⟨_, hid rfl⟩
      rw [Hb.out]
      rintro e w2 ⟨v2, rfl, hS2, hw2⟩
      subst hw2
      have HS2 : Hid (Sl (fun b => b < B) w2 v2 b) := hS2
      obtain ⟨a2, c2, rfl⟩ := hS2.form
      have hl2 := hS2.len
      clear hS2 hr1
      cases b with
      | nil =>
        have HV : Hid (declOf (n :: r) = none) := declOf_bare hk Hb.out
        have z0 := R0.out.fz 0
        have z1 := R0.out.fz 1
        have z2 := R0.out.fz 2
        obtain ⟨q0, q1, q2⟩ := R0.out.cs
        go_wp2_with fail
        refine bodyPost_ret (v := .tuple #[.agg #[.string ⟨#[]⟩, .slice none 0 0, .bool false], .bool false]) (by simp [results, Tryz.results158, go_sem, q0, q1, q2]) rfl ?_
        exact ⟨by rw [HV.out]; rfl, by rw [Hrb.out]; exact set3_below B0.out (Nat.le_refl _) _ _ _⟩
      | cons c q =>
        have HV0 : Hid (declOf (n :: r) = if signT c.t (b1 58) = true then some ⟨propOf n.t.word, (cutImp (bare q)).1, (cutImp (bare q)).2⟩ else none) := declOf_sign hk Hb.out
        obtain ⟨g2, o2, kv2, cap2, hcv, hN2, hcap2⟩ := HS2.out.head
        injection hcv with hcv1 _ hcv2
        subst hcv1 hcv2
        obtain ⟨ka2, kc2, rfl⟩ := hN2.k.form
        have d0 := hN2.c0
        have d1 := hN2.c1
        have d2 := hN2.c2
        have d3 := hN2.c3
        clear hN2
        have h2c : ((q.length : Int) + 1 == 0) = false := by simp; omega
        obtain ⟨z2, Hz2⟩ : ∃ z, Hid (signT c.t (b1 58) = z) := ⟨_, hid rfl⟩
        rw [Hz2.out] at HV0
        go_wp2_with fail
        refine (IsSign_c c.t (.slice ka2 c.kids.length kc2) (b1 58) _).mono ?_
        rw [Hz2.out]
        rintro e w3 ⟨rfl, hb3⟩
        have X3 : Hid (Below w2.heap.size w2 w3) := hb3
        have B3 : Hid (Below rb w w3) := B0.out.trans (hb3.mono hsz0)
        have R3 : Hid (Q3 181 w3 rb (.string ⟨#[]⟩) (.slice none 0 0) (.bool false)) := R0.out.below hb3
        have HS3 : Hid (Sl (fun b => b < B) w3 (.slice (some ⟨g2, o2, none⟩) (q.length + 1) c2) (c :: q)) := HS2.out.below hb3 (by omega)
        have hs3 := X3.out.size
        clear hb3 d0 d1 d2 d3
        cases z2
        · have HV : Hid (declOf (n :: r) = none) := HV0.out
          have z0 := R3.out.fz 0
          have z1 := R3.out.fz 1
          have z2 := R3.out.fz 2
          obtain ⟨q0, q1, q2⟩ := R3.out.cs
          go_wp2_with fail
          refine bodyPost_ret (v := .tuple #[.agg #[.string ⟨#[]⟩, .slice none 0 0, .bool false], .bool false]) (by simp [results, Tryz.results158, go_sem, q0, q1, q2]) rfl ?_
          exact ⟨by rw [HV.out]; rfl, by rw [Hrb.out]; exact set3_below B3.out (Nat.le_refl _) _ _ _⟩
        · obtain ⟨a4, hr4, hS4⟩ := HS3.out.cut1v
          have HS4 : Hid (Sl (fun b => b < B) w3 (.slice a4 q.length (c2 - 1)) q) := hS4
          clear hS4
          go_wp2_with fail
          refine (Trim_c B q _ w3 HS4.out).mono ?_
          obtain ⟨bq, Hbq⟩ : ∃ bq, Hid (bare q = bq) := ⟨_, hid rfl⟩
          rw [Hbq.out] at HV0
          rw [Hbq.out]
          rintro e w5 ⟨v5, rfl, hS5, hw5⟩
          subst hw5
          have HS5 : Hid (Sl (fun b => b < B) w5 v5 bq) := hS5
          obtain ⟨a5, c5, rfl⟩ := hS5.form
          clear hS5 hr4
          go_wp2_with fail
          refine (cutImportant_c B bq _ w5 HS5.out (by omega)).mono ?_
          obtain ⟨⟨val, imp⟩, Hci⟩ : ∃ ci, Hid (cutImp bq = ci) := ⟨_, hid rfl⟩
          rw [Hci.out] at HV0
          rw [Hci.out]
          rintro e w6 ⟨v6, rfl, hS6, hb6⟩
          have HS6 : Hid (Sl (fun b => b < B) w6 v6 val) := hS6
          obtain ⟨a6, c6, rfl⟩ := hS6.form
          have X6 : Hid (Below w2.heap.size w2 w6) := X3.out.trans (hb6.mono hs3)
          have B6 : Hid (Below rb w w6) := B0.out.trans (X6.out.mono hsz0)
          have R6 : Hid (Q3 181 w6 rb (.string ⟨#[]⟩) (.slice none 0 0) (.bool false)) := R3.out.below hb6
          have c1 := HNC.out w6 X6.out
          have hs6 := X6.out.size
          clear hS6 hb6
          go_wp2_with fail
          refine (Property_c n.t.word w6 hwd).mono ?_
          have hps : (propOf n.t.word).size ≤ 4000000 := by rw [propOf_size]; exact hwd
          obtain ⟨pr, Hpr⟩ : ∃ pr, Hid (propOf n.t.word = pr) := ⟨_, hid rfl⟩
          rw [Hpr.out] at HV0 hps
          rw [Hpr.out]
          rintro e w7 ⟨rfl, hb7⟩
          have X7 : Hid (Below w2.heap.size w2 w7) := X6.out.trans (hb7.mono hs6)
          have B7 : Hid (Below rb w w7) := B0.out.trans (X7.out.mono hsz0)
          have R7 : Hid (Q3 181 w7 rb (.string ⟨#[]⟩) (.slice none 0 0) (.bool false)) := R6.out.below hb7
          have HS7 : Hid (Sl (fun b => b < B) w7 (.slice a6 val.length c6) val) := HS6.out.below hb7 (by omega)
          clear hb7 c1
          have HV : Hid (declOf (n :: r) = some ⟨pr, val, imp⟩) := HV0.out
          have z0 := R7.out.fz 0
          have z1 := R7.out.fz 1
          have z2 := R7.out.fz 2
          obtain ⟨q0, q1, q2⟩ := R7.out.cs
          go_wp2_with fail
          refine bodyPost_ret (v := .tuple #[.agg #[.string pr, .slice a6 val.length c6, .bool imp], .bool true]) (by simp [results, Tryz.results158, go_sem, q0, q1, q2]) rfl ?_
          have hst : ∀ k, k < B → (set3 w7 rb (.string pr) (.slice a6 val.length c6) (.bool imp)).heap[k]? = w7.heap[k]? := fun k hk => set3_other w7 (by omega) _ _ _
          exact ⟨by rw [HV.out]; exact ⟨_, rfl, HS7.out.keep (fun _ hg => hg) hst, hps⟩, by rw [Hrb.out]; exact set3_below B7.out (Nat.le_refl _) _ _ _⟩
end
section
attribute [local go_sem] fld_tok fld_ins fld_kind fld_word
theorem declsF_fuel : ∀ (f g : Nat) (l : List Nd), l.length ≤ f → l.length ≤ g → declsF f l = declsF g l := by
  intro f
  induction f with
  | zero =>
    intro g l hf hg
    obtain rfl : l = [] := List.eq_nil_of_length_eq_zero (by omega)
    cases g <;> rfl
  | succ f ih =>
    intro g l hf hg
    cases l with
    | nil => cases g <;> rfl
    | cons n r =>
      cases g with
      | zero => simp at hg
      | succ g =>
        simp only [List.length_cons] at hf hg
        unfold declsF
        dsimp only
        have h1 := cutN_len (fun m => isSemi m || isBody m) r
        have h2 := cutN_len isSemi (n :: r)
        simp only [List.length_cons] at h2
        rw [ih g r (by omega) (by omega), ih g (cutN (fun m => isSemi m || isBody m) r).2.2 (by omega) (by omega), ih g (cutN isSemi (n :: r)).2.2 (by omega) (by omega)]
theorem decls_blank {n : Nd} {r : List Nd} (h : blankN n = true) : decls (n :: r) = decls r := by
  unfold decls
  show declsF (r.length + 1) (n :: r) = _
  conv => lhs; unfold declsF
  rw [if_pos (by rw [h]; rfl)]
theorem decls_at {n : Nd} {r : List Nd} (h : n.t.kind = 10) : decls (n :: r) = decls (cutN (fun m => isSemi m || isBody m) r).2.2 := by
  have h1 := cutN_len (fun m => isSemi m || isBody m) r
  unfold decls
  show declsF (r.length + 1) (n :: r) = _
  conv => lhs; unfold declsF
  rw [if_neg (by simp [blankN, isSemi, sgnN, signT, h]), if_pos h]
  exact declsF_fuel _ _ _ (by omega) (Nat.le_refl _)
theorem decls_other {n : Nd} {r : List Nd} (h : ¬ n.t.kind = 1) (h10 : ¬ n.t.kind = 10) : decls (n :: r) = (declOf (cutN isSemi (n :: r)).1).toList ++ decls (cutN isSemi (n :: r)).2.2 := by
  have h1 := cutN_len isSemi (n :: r)
  simp only [List.length_cons] at h1
  unfold decls
  show declsF (r.length + 1) (n :: r) = _
  have hb : blankN n = false := by simp [blankN, h]
  by_cases hs : isSemi n = true
  · conv => lhs; unfold declsF
    rw [if_pos (by rw [hs]; simp)]
    unfold cutN
    rw [if_pos hs]
    rfl
  · conv => lhs; unfold declsF
    rw [if_neg (by rw [hb]; simpa using hs), if_neg h10]
    dsimp only
    cases declOf (cutN isSemi (n :: r)).1 with
    | none => exact declsF_fuel _ _ _ (by omega) (Nat.le_refl _)
    | some d =>
      show d :: _ = d :: _
      rw [declsF_fuel r.length _ _ (by omega) (Nat.le_refl _)]
      rfl
def CDec : Law Dec := fun S w d cs => ∃ vv, cs = [.string d.prop, vv, .bool d.imp] ∧ Sl S w vv d.val ∧ d.prop.size ≤ 4000000
theorem CDec.fair : Fair CDec := by
  rintro S S' w w' d cs hS hw ⟨vv, h1, h2, h3⟩
  exact ⟨vv, h1, h2.keep hS hw, h3⟩
theorem CDec.sized : Sized CDec 3 := by rintro S w d cs ⟨vv, rfl, _⟩; rfl
theorem info_dec : ∃ i, Tryz.prog.info? 181 = some i ∧ i.zero = some (.agg #[.string ⟨#[]⟩, .slice none 0 0, .bool false]) ∧ i.size = 3 ∧ i.bytes = 48 := info_parts (by kernel_rfl)
theorem new3 (w : World) (a b c : Value) (t : TypeId) : ∀ j u, [a, b, c][j]? = some u → (w.alloc (.cells #[a, b, c] t)).cell? ((⟨w.heap.size, 0, none⟩ : Addr).add j) = some u := by
  intro j u hu
  rw [Addr.add_lit, Nat.zero_add, World.cell?_alloc_mark, ← hu]
  simp
structure DcI (B : Nat) (w : World) (l : List Nd) (u : Value) (acc : List Dec) (cs : List Value) (cv : Value) (cur : List Nd) (wr : World) : Prop where
  row : wr.ownsRow w.heap.size 181 3 u acc.length cs
  cat : CatG CDec (fun b => b < B) wr acc cs
  now : Sl (fun b => b < B) wr cv cur
  below : Below w.heap.size w wr
  eq : decls l = acc ++ decls cur
  ln : acc.length + cur.length ≤ l.length
end
section
attribute [local go_sem] fld_tok fld_ins fld_kind fld_word
def sgB (s : ByteArray) : Bool := s.toList == [43] || s.toList == [45] || s.toList == [42] || s.toList == [47] || s.toList == [46] || s.toList == [44] || s.toList == [58] || s.toList == [37] || s.toList == [61] || s.toList == [40] || s.toList == [91] || s.toList == [123]
end
section
attribute [local go_sem] fld_tok fld_ins fld_kind fld_word
theorem contains_any (zs : List ByteArray) (x : ByteArray) : zs.contains x = zs.any (fun z => decide (x = z)) := by
  induction zs with
  | nil => rfl
  | cons z r ih =>
    rw [List.contains_cons, ih, List.any_cons]
    congr 1
    rw [Bool.eq_iff_iff]
    obtain ⟨xd⟩ := x
    obtain ⟨zd⟩ := z
    show (xd == zd) = true ↔ decide (_ = _) = true
    simp
theorem has_c (S : Nat → Prop) (zs : List ByteArray) (v : Value) (x : ByteArray) (w : World) (h : SG CStr 1 S w v zs) :
    Calls Tryz.prog 188 #[v, .string x] w fun e w' => e = .returned (.bool (zs.contains x)) ∧ w' = w := by
  obtain ⟨a, cap, rfl⟩ := h.form
  cases zs with
  | nil => exact Tryz.slices_Contains_string_empty a cap x w
  | cons z r =>
    have hl := h.len
    obtain ⟨g, o, rfl, hL, hcap⟩ := h.here (by simp)
    have := Tryz.slices_Contains_string g o (z :: r).length cap (z :: r) x w (Nat.le_refl _) (by omega) (fun j hj => by
      have h1 := (hL.str (i := j) hj).2.1
      rw [h1, List.getD_eq_getElem?_getD, List.getElem?_eq_getElem hj]; rfl)
    rw [List.take_of_length_le (Nat.le_refl _), has_lit, ← contains_any] at this
    exact this
def polV (p : Policy) (pv fv av : Value) : Value := .agg #[.string p.root, pv, fv, av, .bool p.cust, .bool p.texts]
structure PolM (B : Nat) (w : World) (p : Policy) (pv fv av : Value) : Prop where
  props : SG CStr 1 (fun b => b < B) w pv p.props
  funs : SG CStr 1 (fun b => b < B) w fv p.funs
  ats : SG CStr 1 (fun b => b < B) w av p.ats
  lt : B ≤ w.heap.size
theorem PolM.below {B : Nat} {w w' : World} {p : Policy} {pv fv av : Value} {g : Nat} (h : PolM B w p pv fv av) (hb : Below g w w') (hg : B ≤ g) : PolM B w' p pv fv av :=
  ⟨h.props.below CStr.fair hb hg, h.funs.below CStr.fair hb hg, h.ats.below CStr.fair hb hg, Nat.le_trans h.lt hb.size⟩
def Q6 (w : World) (b : Nat) (x0 x1 x2 x3 x4 x5 : Value) : Prop := w.heap[b]? = some (.cells #[x0, x1, x2, x3, x4, x5] 82 (0, 0))
section
variable {w w' : World} {b : Nat} {x0 x1 x2 x3 x4 x5 : Value}
theorem Q6.lt (h : Q6 w b x0 x1 x2 x3 x4 x5) : b < w.heap.size := (Array.getElem?_eq_some_iff.1 h).1
theorem Q6.cs (h : Q6 w b x0 x1 x2 x3 x4 x5) : w.cell? ⟨b, 0, none⟩ = some x0 ∧ w.cell? ⟨b, 1, none⟩ = some x1 ∧ w.cell? ⟨b, 2, none⟩ = some x2 ∧ w.cell? ⟨b, 3, none⟩ = some x3 ∧ w.cell? ⟨b, 4, none⟩ = some x4 ∧ w.cell? ⟨b, 5, none⟩ = some x5 := by
  have h' : w.heap[b]? = _ := h
  refine ⟨?_, ?_, ?_, ?_, ?_, ?_⟩ <;> (unfold World.cell?; rw [h']; rfl)
theorem Q6.below {g : Nat} (h : Q6 w b x0 x1 x2 x3 x4 x5) (hb : Below g w w') (hg : b < g) : Q6 w' b x0 x1 x2 x3 x4 x5 := by
  show _ = _; rw [hb.block b hg]; exact h
theorem Q6.new (w : World) (x0 x1 x2 x3 x4 x5 : Value) : Q6 (w.alloc (.cells #[x0, x1, x2, x3, x4, x5] 82)) w.heap.size x0 x1 x2 x3 x4 x5 := heap_alloc_new w _
theorem Q6.nb (p : Policy) (pa fa aa : Option Addr) (pc fc ac : Nat) (w : World) : Hid (Below w.heap.size w (w.alloc (.cells #[.string p.root, .slice pa p.props.length pc, .slice fa p.funs.length fc, .slice aa p.ats.length ac, .bool p.cust, .bool p.texts] 82))) ∧ Hid (Q6 (w.alloc (.cells #[.string p.root, .slice pa p.props.length pc, .slice fa p.funs.length fc, .slice aa p.ats.length ac, .bool p.cust, .bool p.texts] 82)) w.heap.size (.string p.root) (.slice pa p.props.length pc) (.slice fa p.funs.length fc) (.slice aa p.ats.length ac) (.bool p.cust) (.bool p.texts)) :=
  ⟨(Below.refl _ _).alloc (Nat.le_refl _) _, Q6.new _ _ _ _ _ _ _⟩
theorem Q6.alloc (h : Q6 w b x0 x1 x2 x3 x4 x5) (o : Obj) : Q6 (w.alloc o) b x0 x1 x2 x3 x4 x5 := h.below ((Below.refl _ _).alloc (Nat.le_refl _) _) h.lt
end
section
variable (p : Policy) (pa fa aa : Option Addr) (pl pc fl fc al ac : Nat) (wd un : ByteArray) (ka : Option Addr) (kl kc : Nat) (w : World)
end
end
end Go.Proofs.YtlliliddljkbfaaGreat
