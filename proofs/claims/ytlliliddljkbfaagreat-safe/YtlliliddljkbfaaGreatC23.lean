import Derived.Test.YtlliliddljkbfaaGreatC7
import Derived.Test.YtlliliddljkbfaaGreatC22
namespace Go.Proofs.YtlliliddljkbfaaGreat
set_option maxHeartbeats 64000000
set_option maxRecDepth 100000
open Go.RowKit Sp
section
attribute [local go_sem] fld_tok fld_ins fld_kind fld_word
def Q3 (T : TypeId) (w : World) (b : Nat) (x0 x1 x2 : Value) : Prop := w.heap[b]? = some (.cells #[x0, x1, x2] T (0, 0))
section
variable {T : TypeId} {w w' : World} {b : Nat} {x0 x1 x2 : Value}
theorem Q3.lt (h : Q3 T w b x0 x1 x2) : b < w.heap.size := (Array.getElem?_eq_some_iff.1 h).1
theorem Q3.cs (h : Q3 T w b x0 x1 x2) : w.cell? ⟨b, 0, none⟩ = some x0 ∧ w.cell? ⟨b, 1, none⟩ = some x1 ∧ w.cell? ⟨b, 2, none⟩ = some x2 := by
  have h' : w.heap[b]? = _ := h
  refine ⟨?_, ?_, ?_⟩ <;> (unfold World.cell?; rw [h']; rfl)
theorem Q3.fz (h : Q3 T w b x0 x1 x2) (o : Nat) : w.frozen? ⟨b, o, none⟩ = false := by
  have h' : w.heap[b]? = _ := h
  unfold World.frozen?; rw [h']; simp
theorem Q3.below (h : Q3 T w b x0 x1 x2) (hb : Below w.heap.size w w') : Q3 T w' b x0 x1 x2 := by
  show _ = _; rw [hb.block b h.lt]; exact h
theorem Q3.new (T : TypeId) (w : World) (x0 x1 x2 : Value) : Q3 T (w.alloc (.cells #[x0, x1, x2] T)) w.heap.size x0 x1 x2 := heap_alloc_new w _
end
def set3 (w : World) (g : Nat) (a b c : Value) : World := ((w.setCell ⟨g, 0, none⟩ a).setCell ⟨g, 1, none⟩ b).setCell ⟨g, 2, none⟩ c
theorem set3_below {B g : Nat} {x w : World} (h : Below B x w) (hg : B ≤ g) (a b c : Value) : Below B x (set3 w g a b c) :=
  ((h.setCell hg _).setCell hg _).setCell hg _
theorem set3_other (w : World) {g k : Nat} (h : k ≠ g) (a b c : Value) : (set3 w g a b c).heap[k]? = w.heap[k]? := by
  unfold set3
  rw [Below.heap_setCell _ _ _ _ h, Below.heap_setCell _ _ _ _ h, Below.heap_setCell _ _ _ _ h]
theorem Q3.put {T : TypeId} {w : World} {b : Nat} {x0 x1 x2 : Value} (h : Q3 T w b x0 x1 x2) (y0 y1 y2 : Value) : Q3 T (set3 w b y0 y1 y2) b y0 y1 y2 := by
  have h' : w.heap[b]? = _ := h
  show _ = _
  simp only [set3, World.setCell, Array.getElem?_modify, h']
  simp
def dcP (B : Nat) (o : Option Dec) (w' : World) (e : Ending) : Prop :=
  match o with
  | none => e = .returned (.tuple #[.agg #[.string ⟨#[]⟩, .slice none 0 0, .bool false], .bool false])
  | some d => ∃ vv, e = .returned (.tuple #[.agg #[.string d.prop, vv, .bool d.imp], .bool true]) ∧ Sl (fun b => b < B) w' vv d.val ∧ d.prop.size ≤ 4000000
theorem small_size (s : ByteArray) : (small s).size = s.size := by
  show (s.data.toList.map smallB).toArray.size = s.data.size
  rw [List.size_toArray, List.length_map, Array.length_toList]
theorem propOf_size (p : ByteArray) : (propOf p).size = p.size := by
  unfold propOf
  split
  · rfl
  · exact small_size p
theorem declOf_kind {n : Nd} {r : List Nd} (h : (n.t.kind == 14) = false) : declOf (n :: r) = none := by
  unfold declOf
  simp only
  rw [if_pos (by simpa using h)]
theorem declOf_bare {n : Nd} {r : List Nd} (h : (n.t.kind == 14) = true) (hb : bare r = []) : declOf (n :: r) = none := by
  unfold declOf
  simp only
  rw [if_neg (by simpa using h), hb]
theorem declOf_sign {n c : Nd} {r q : List Nd} (h : (n.t.kind == 14) = true) (hb : bare r = c :: q) : declOf (n :: r) = if signT c.t (b1 58) = true then some ⟨propOf n.t.word, (cutImp (bare q)).1, (cutImp (bare q)).2⟩ else none := by
  unfold declOf
  simp only
  rw [if_neg (by simpa using h), hb]
  rfl
theorem readDeclaration_c (B : Nat) (l : List Nd) (v : Value) (w : World) (h : Sl (fun b => b < B) w v l) (hB : B ≤ w.heap.size) :
    Calls Tryz.prog 158 #[v] w fun e w' => dcP B (declOf l) w' e ∧ Below w.heap.size w w' := by
  have hl6 := h.len
  have HS : Hid (Sl (fun b => b < B) w v l) := h
  obtain ⟨a, cap, rfl⟩ := h.form
  clear h
  have R0 : Hid (Q3 181 (w.alloc (.cells #[.string ⟨#[]⟩, .slice none 0 0, .bool false] 181)) w.heap.size (.string ⟨#[]⟩) (.slice none 0 0) (.bool false)) := Q3.new _ _ _ _ _
  have B0 : Hid (Below w.heap.size w (w.alloc (.cells #[.string ⟨#[]⟩, .slice none 0 0, .bool false] 181))) := (Below.refl _ _).alloc (Nat.le_refl _) _
  go_enter Tryz.func158, Tryz.ntmps158
  go_upto_region 1 with fail
  have hsz0 := B0.out.size
  have hlt0 := R0.out.lt
  generalize w.alloc (.cells #[.string ⟨#[]⟩, .slice none 0 0, .bool false] 181) = w0 at *
  obtain ⟨rb, Hrb⟩ : ∃ rb, Hid (w.heap.size = rb) := ⟨_, hid rfl⟩
  rw [Hrb.out] at B0 R0 hB hlt0 hsz0 ⊢
  have S0 : Hid (Sl (fun b => b < B) w0 (.slice a l.length cap) l) := HS.out.below B0.out hB
  clear HS
  cases l with
  | nil =>
    have HV : Hid (declOf [] = none) := rfl
    have z0 := R0.out.fz 0
    have z1 := R0.out.fz 1
    have z2 := R0.out.fz 2
    obtain ⟨q0, q1, q2⟩ := R0.out.cs
    go_wp2_with fail
    refine bodyPost_ret (v := .tuple #[.agg #[.string ⟨#[]⟩, .slice none 0 0, .bool false], .bool false]) (by simp [results, Tryz.results158, go_sem, q0, q1, q2]) rfl ?_
    exact ⟨by rw [HV.out]; rfl, by rw [Hrb.out]; exact set3_below B0.out (Nat.le_refl _) _ _ _⟩
  | cons n r =>
    obtain ⟨g, o, nv, cap', hcv, hN, hcap⟩ := S0.out.head
    injection hcv with hcv1 _ hcv2
    subst hcv1 hcv2
    have hgB : g < B := hN.s
    have c0 := hN.c0
    have HNC : Hid (∀ wx, Below w0.heap.size w0 wx → wx.cell? ⟨g, o + 1, none⟩ = some (.string n.t.word)) := fun wx hb => by rw [hb.cell (p := ⟨g, _, none⟩) (show g < w0.heap.size by omega)]; exact hN.c1
    have hwd := hN.ok.word
    clear hN
    have h1 : ¬ ((r.length + 1 : Nat) : Int) = 0 := by omega
    have h1b : (((r.length + 1 : Nat) : Int) == 0) = false := by simpa using h1
    have h1c : ((r.length : Int) + 1 == 0) = false := by simp; omega
    cases hk : (n.t.kind == 14)
    · have HV : Hid (declOf (n :: r) = none) := declOf_kind hk
      have hkn : (n.t.kind != 14) = true := by rw [bne, hk]; rfl
      have z0 := R0.out.fz 0
      have z1 := R0.out.fz 1
      have z2 := R0.out.fz 2
      obtain ⟨q0, q1, q2⟩ := R0.out.cs
      go_wp2_with fail
      refine bodyPost_ret (v := .tuple #[.agg #[.string ⟨#[]⟩, .slice none 0 0, .bool false], .bool false]) (by simp [results, Tryz.results158, go_sem, q0, q1, q2]) rfl ?_
      exact ⟨by rw [HV.out]; rfl, by rw [Hrb.out]; exact set3_below B0.out (Nat.le_refl _) _ _ _⟩
    · have hkn : (n.t.kind != 14) = false := by rw [bne, hk]; rfl
      obtain ⟨a1, hr1, hS1⟩ := S0.out.cut1v
      have HS1 : Hid (Sl (fun b => b < B) w0 (.slice a1 r.length (cap - 1)) r) := hS1
      clear hS1
      go_wp2_with fail
      refine (Trim_c B r _ w0 HS1.out).mono ?_
      obtain ⟨b, Hb⟩ : ∃ b, Hid (bare r = b) := ⟨_, hid rfl⟩
      rw [Hb.out]
      rintro e w2 ⟨v2, rfl, hS2, hw2⟩
      subst hw2
      have HS2 : Hid (Sl (fun b => b < B) w2 v2 b) := hS2
      obtain ⟨a2, c2, rfl⟩ := hS2.form
      have hl2 := hS2.len
      clear hS2 hr1
      cases b with
      | nil =>
        have HV : Hid (declOf (n :: r) = none) := declOf_bare hk Hb.out
        have z0 := R0.out.fz 0
        have z1 := R0.out.fz 1
        have z2 := R0.out.fz 2
        obtain ⟨q0, q1, q2⟩ := R0.out.cs
        go_wp2_with fail
        refine bodyPost_ret (v := .tuple #[.agg #[.string ⟨#[]⟩, .slice none 0 0, .bool false], .bool false]) (by simp [results, Tryz.results158, go_sem, q0, q1, q2]) rfl ?_
        exact ⟨by rw [HV.out]; rfl, by rw [Hrb.out]; exact set3_below B0.out (Nat.le_refl _) _ _ _⟩
      | cons c q =>
        have HV0 : Hid (declOf (n :: r) = if signT c.t (b1 58) = true then some ⟨propOf n.t.word, (cutImp (bare q)).1, (cutImp (bare q)).2⟩ else none) := declOf_sign hk Hb.out
        obtain ⟨g2, o2, kv2, cap2, hcv, hN2, hcap2⟩ := HS2.out.head
        injection hcv with hcv1 _ hcv2
        subst hcv1 hcv2
        obtain ⟨ka2, kc2, rfl⟩ := hN2.k.form
        have d0 := hN2.c0
        have d1 := hN2.c1
        have d2 := hN2.c2
        have d3 := hN2.c3
        clear hN2
        have h2c : ((q.length : Int) + 1 == 0) = false := by simp; omega
        obtain ⟨z2, Hz2⟩ : ∃ z, Hid (signT c.t (b1 58) = z) := ⟨_, hid rfl⟩
        rw [Hz2.out] at HV0
        go_wp2_with fail
        refine (IsSign_c c.t (.slice ka2 c.kids.length kc2) (b1 58) _).mono ?_
        rw [Hz2.out]
        rintro e w3 ⟨rfl, hb3⟩
        have X3 : Hid (Below w2.heap.size w2 w3) := hb3
        have B3 : Hid (Below rb w w3) := B0.out.trans (hb3.mono hsz0)
        have R3 : Hid (Q3 181 w3 rb (.string ⟨#[]⟩) (.slice none 0 0) (.bool false)) := R0.out.below hb3
        have HS3 : Hid (Sl (fun b => b < B) w3 (.slice (some ⟨g2, o2, none⟩) (q.length + 1) c2) (c :: q)) := HS2.out.below hb3 (by omega)
        have hs3 := X3.out.size
        clear hb3 d0 d1 d2 d3
        cases z2
        · have HV : Hid (declOf (n :: r) = none) := HV0.out
          have z0 := R3.out.fz 0
          have z1 := R3.out.fz 1
          have z2 := R3.out.fz 2
          obtain ⟨q0, q1, q2⟩ := R3.out.cs
          go_wp2_with fail
          refine bodyPost_ret (v := .tuple #[.agg #[.string ⟨#[]⟩, .slice none 0 0, .bool false], .bool false]) (by simp [results, Tryz.results158, go_sem, q0, q1, q2]) rfl ?_
          exact ⟨by rw [HV.out]; rfl, by rw [Hrb.out]; exact set3_below B3.out (Nat.le_refl _) _ _ _⟩
        · obtain ⟨a4, hr4, hS4⟩ := HS3.out.cut1v
          have HS4 : Hid (Sl (fun b => b < B) w3 (.slice a4 q.length (c2 - 1)) q) := hS4
          clear hS4
          go_wp2_with fail
          refine (Trim_c B q _ w3 HS4.out).mono ?_
          obtain ⟨bq, Hbq⟩ : ∃ bq, Hid (bare q = bq) := ⟨_, hid rfl⟩
          rw [Hbq.out] at HV0
          rw [Hbq.out]
          rintro e w5 ⟨v5, rfl, hS5, hw5⟩
          subst hw5
          have HS5 : Hid (Sl (fun b => b < B) w5 v5 bq) := hS5
          obtain ⟨a5, c5, rfl⟩ := hS5.form
          clear hS5 hr4
          go_wp2_with fail
          refine (cutImportant_c B bq _ w5 HS5.out (by omega)).mono ?_
          obtain ⟨⟨val, imp⟩, Hci⟩ : ∃ ci, Hid (cutImp bq = ci) := ⟨_, hid rfl⟩
          rw [Hci.out] at HV0
          rw [Hci.out]
          rintro e w6 ⟨v6, rfl, hS6, hb6⟩
          have HS6 : Hid (Sl (fun b => b < B) w6 v6 val) := hS6
          obtain ⟨a6, c6, rfl⟩ := hS6.form
          have X6 : Hid (Below w2.heap.size w2 w6) := X3.out.trans (hb6.mono hs3)
          have B6 : Hid (Below rb w w6) := B0.out.trans (X6.out.mono hsz0)
          have R6 : Hid (Q3 181 w6 rb (.string ⟨#[]⟩) (.slice none 0 0) (.bool false)) := R3.out.below hb6
          have c1 := HNC.out w6 X6.out
          have hs6 := X6.out.size
          clear hS6 hb6
          go_wp2_with fail
          refine (Property_c n.t.word w6 hwd).mono ?_
          have hps : (propOf n.t.word).size ≤ 4000000 := by rw [propOf_size]; exact hwd
          obtain ⟨pr, Hpr⟩ : ∃ pr, Hid (propOf n.t.word = pr) := ⟨_, hid rfl⟩
          rw [Hpr.out] at HV0 hps
          rw [Hpr.out]
          rintro e w7 ⟨rfl, hb7⟩
          have X7 : Hid (Below w2.heap.size w2 w7) := X6.out.trans (hb7.mono hs6)
          have B7 : Hid (Below rb w w7) := B0.out.trans (X7.out.mono hsz0)
          have R7 : Hid (Q3 181 w7 rb (.string ⟨#[]⟩) (.slice none 0 0) (.bool false)) := R6.out.below hb7
          have HS7 : Hid (Sl (fun b => b < B) w7 (.slice a6 val.length c6) val) := HS6.out.below hb7 (by omega)
          clear hb7 c1
          have HV : Hid (declOf (n :: r) = some ⟨pr, val, imp⟩) := HV0.out
          have z0 := R7.out.fz 0
          have z1 := R7.out.fz 1
          have z2 := R7.out.fz 2
          obtain ⟨q0, q1, q2⟩ := R7.out.cs
          go_wp2_with fail
          refine bodyPost_ret (v := .tuple #[.agg #[.string pr, .slice a6 val.length c6, .bool imp], .bool true]) (by simp [results, Tryz.results158, go_sem, q0, q1, q2]) rfl ?_
          have hst : ∀ k, k < B → (set3 w7 rb (.string pr) (.slice a6 val.length c6) (.bool imp)).heap[k]? = w7.heap[k]? := fun k hk => set3_other w7 (by omega) _ _ _
          exact ⟨by rw [HV.out]; exact ⟨_, rfl, HS7.out.keep (fun _ hg => hg) hst, hps⟩, by rw [Hrb.out]; exact set3_below B7.out (Nat.le_refl _) _ _ _⟩
end
section
attribute [local go_sem] fld_tok fld_ins fld_kind fld_word
theorem declsF_fuel : ∀ (f g : Nat) (l : List Nd), l.length ≤ f → l.length ≤ g → declsF f l = declsF g l := by
  intro f
  induction f with
  | zero =>
    intro g l hf hg
    obtain rfl : l = [] := List.eq_nil_of_length_eq_zero (by omega)
    cases g <;> rfl
  | succ f ih =>
    intro g l hf hg
    cases l with
    | nil => cases g <;> rfl
    | cons n r =>
      cases g with
      | zero => simp at hg
      | succ g =>
        simp only [List.length_cons] at hf hg
        unfold declsF
        dsimp only
        have h1 := cutN_len (fun m => isSemi m || isBody m) r
        have h2 := cutN_len isSemi (n :: r)
        simp only [List.length_cons] at h2
        rw [ih g r (by omega) (by omega), ih g (cutN (fun m => isSemi m || isBody m) r).2.2 (by omega) (by omega), ih g (cutN isSemi (n :: r)).2.2 (by omega) (by omega)]
theorem decls_blank {n : Nd} {r : List Nd} (h : blankN n = true) : decls (n :: r) = decls r := by
  unfold decls
  show declsF (r.length + 1) (n :: r) = _
  conv => lhs; unfold declsF
  rw [if_pos (by rw [h]; rfl)]
theorem decls_at {n : Nd} {r : List Nd} (h : n.t.kind = 10) : decls (n :: r) = decls (cutN (fun m => isSemi m || isBody m) r).2.2 := by
  have h1 := cutN_len (fun m => isSemi m || isBody m) r
  unfold decls
  show declsF (r.length + 1) (n :: r) = _
  conv => lhs; unfold declsF
  rw [if_neg (by simp [blankN, isSemi, sgnN, signT, h]), if_pos h]
  exact declsF_fuel _ _ _ (by omega) (Nat.le_refl _)
theorem decls_other {n : Nd} {r : List Nd} (h : ¬ n.t.kind = 1) (h10 : ¬ n.t.kind = 10) : decls (n :: r) = (declOf (cutN isSemi (n :: r)).1).toList ++ decls (cutN isSemi (n :: r)).2.2 := by
  have h1 := cutN_len isSemi (n :: r)
  simp only [List.length_cons] at h1
  unfold decls
  show declsF (r.length + 1) (n :: r) = _
  have hb : blankN n = false := by simp [blankN, h]
  by_cases hs : isSemi n = true
  · conv => lhs; unfold declsF
    rw [if_pos (by rw [hs]; simp)]
    unfold cutN
    rw [if_pos hs]
    rfl
  · conv => lhs; unfold declsF
    rw [if_neg (by rw [hb]; simpa using hs), if_neg h10]
    dsimp only
    cases declOf (cutN isSemi (n :: r)).1 with
    | none => exact declsF_fuel _ _ _ (by omega) (Nat.le_refl _)
    | some d =>
      show d :: _ = d :: _
      rw [declsF_fuel r.length _ _ (by omega) (Nat.le_refl _)]
      rfl
def CDec : Law Dec := fun S w d cs => ∃ vv, cs = [.string d.prop, vv, .bool d.imp] ∧ Sl S w vv d.val ∧ d.prop.size ≤ 4000000
theorem CDec.fair : Fair CDec := by
  rintro S S' w w' d cs hS hw ⟨vv, h1, h2, h3⟩
  exact ⟨vv, h1, h2.keep hS hw, h3⟩
theorem CDec.sized : Sized CDec 3 := by rintro S w d cs ⟨vv, rfl, _⟩; rfl
theorem info_dec : ∃ i, Tryz.prog.info? 181 = some i ∧ i.zero = some (.agg #[.string ⟨#[]⟩, .slice none 0 0, .bool false]) ∧ i.size = 3 ∧ i.bytes = 48 := info_parts (by kernel_rfl)
theorem new3 (w : World) (a b c : Value) (t : TypeId) : ∀ j u, [a, b, c][j]? = some u → (w.alloc (.cells #[a, b, c] t)).cell? ((⟨w.heap.size, 0, none⟩ : Addr).add j) = some u := by
  intro j u hu
  rw [Addr.add_lit, Nat.zero_add, World.cell?_alloc_mark, ← hu]
  simp
structure DcI (B : Nat) (w : World) (l : List Nd) (u : Value) (acc : List Dec) (cs : List Value) (cv : Value) (cur : List Nd) (wr : World) : Prop where
  row : wr.ownsRow w.heap.size 181 3 u acc.length cs
  cat : CatG CDec (fun b => b < B) wr acc cs
  now : Sl (fun b => b < B) wr cv cur
  below : Below w.heap.size w wr
  eq : decls l = acc ++ decls cur
  ln : acc.length + cur.length ≤ l.length
theorem Declarations_c (B : Nat) (l : List Nd) (v : Value) (w : World) (h : Sl (fun b => b < B) w v l) (hB : B ≤ w.heap.size) :
    Calls Tryz.prog 93 #[v] w fun e w' => ∃ u, e = .returned u ∧ SG CDec 3 (fun b => b < w'.heap.size) w' u (decls l) ∧ Below w.heap.size w w' := by
  have hl6 := h.len
  have HS : Hid (Sl (fun b => b < B) w v l) := h
  obtain ⟨a, cap, rfl⟩ := h.form
  clear h
  obtain ⟨iT, hiT⟩ := info_dec
  have HI : Hid (Tryz.prog.info? 181 = some iT ∧ iT.zero = some (.agg #[.string ⟨#[]⟩, .slice none 0 0, .bool false]) ∧ iT.size = 3 ∧ iT.bytes = 48) := hiT
  clear hiT
  go_enter Tryz.func93, Tryz.ntmps93
  go_wp2_with fail
  go_loopg [0, 3] l.length (fun gg v0 v3 wr => ∃ (u cv : Value) (acc : List Dec) (cs : List Value) (cur : List Nd), u = v3 ∧ cv = v0 ∧ cur.length ≤ gg ∧ acc.length ≤ 600 ∧ Aside (DcI B w l u acc cs cv cur wr))
  case atStart => exact ⟨_, _, [], [], l, rfl, rfl, by omega, by simp, World.ownsRow_nil _ _ _ _, rfl, HS.out, Below.refl _ _, rfl, by simp⟩
  case round =>
    obtain ⟨u, cv, acc, cs, cur, rfl, rfl, hcl, hal, hA⟩ := hrel
    have HR : Hid (DcI B w l u acc cs cv cur wr) := hA.out
    clear hA
    obtain ⟨ua, uc, rfl⟩ := own_form HR.out.row
    have hsr := HR.out.below.size
    cases cur with
    | nil =>
      obtain ⟨ca, cc, rfl⟩ := HR.out.now.form
      have HV : Hid (decls l = acc) := by show _ = _; rw [HR.out.eq]; exact List.append_nil _
      go_wp2_with fail
      go_ret
      exact ⟨_, rfl, by rw [HV.out]; exact own_sg CDec.fair CDec.sized HR.out.row HR.out.cat (fun g hg => by have hg' : g < B := hg; omega) (by omega), HR.out.below⟩
    | cons n r =>
      obtain ⟨g, o, nv, cap', rfl, hN, hcap⟩ := HR.out.now.head
      have c0 := hN.c0
      clear hN
      have h1 : (0 : Int) < ((r.length + 1 : Nat) : Int) := by omega
      simp only [List.length_cons] at hcl
      have hln := HR.out.ln
      simp only [List.length_cons] at hln
      cases hk1 : (n.t.kind == 1)
      · have nk1 : ¬ n.t.kind = 1 := by simpa using hk1
        cases hk10 : (n.t.kind == 10)
        · have nk10 : ¬ n.t.kind = 10 := by simpa using hk10
          obtain ⟨c, Hc⟩ : ∃ c, Hid (cutN isSemi (n :: r) = c) := ⟨_, hid rfl⟩
          have HEQ : Hid (decls l = acc ++ ((declOf c.1).toList ++ decls c.2.2)) := by show _ = _; rw [HR.out.eq, decls_other nk1 nk10, Hc.out]
          have hrl : c.2.2.length ≤ r.length := by have := cutN_len isSemi (n :: r); rw [Hc.out] at this; simp only [List.length_cons] at this; omega
          have Hstop : Hid (stopB [⟨#[59]⟩] = isSemi) := funext stopS
          clear nk1 nk10
          have B1 : Hid (Below wr.heap.size wr (wr.alloc (.cells #[.string ⟨#[59]⟩] 9))) := (Below.refl _ _).alloc (Nat.le_refl _) _
          have HZC : Hid (∀ j, j < 1 → (wr.alloc (.cells #[.string ⟨#[59]⟩] 9)).cell? ⟨wr.heap.size, 0 + j, none⟩ = some (.string ([(⟨#[59]⟩ : ByteArray)].getD j ByteArray.empty))) := by
            intro j hj
            have hh : (wr.alloc (.cells #[.string ⟨#[59]⟩] 9)).heap[wr.heap.size]? = _ := heap_alloc_new wr _
            unfold World.cell?
            rw [hh]
            obtain rfl : j = 0 := by omega
            rfl
          go_wp2_with fail
          have hs1 := B1.out.size
          have hlt1 : wr.heap.size < (wr.alloc (.cells #[.string ⟨#[59]⟩] 9)).heap.size := by simp
          generalize wr.alloc (.cells #[.string ⟨#[59]⟩] 9) = w1 at *
          refine (Cut_c B (n :: r) _ [⟨#[59]⟩] _ w1 (HR.out.now.below B1.out (by omega)) (by omega) (by simp) hlt1 HZC.out).mono ?_
          rw [Hstop.out, Hc.out]
          rintro e w2 ⟨v1, sv, v2, rfl, hcut, hb2⟩
          obtain ⟨t, ka, ks, kc, rfl, hks, hsome, hbody⟩ := hcut.val
          obtain ⟨va, vc, rfl⟩ := hcut.ahead.form
          obtain ⟨ba, bc, rfl⟩ := hcut.behind.form
          have X2 : Hid (Below wr.heap.size wr w2) := B1.out.trans (hb2.mono hs1)
          have HA : Hid (Sl (fun b => b < B) w2 (.slice va c.1.length vc) c.1) := hcut.ahead
          have HBH : Hid (Sl (fun b => b < B) w2 (.slice ba c.2.2.length bc) c.2.2) := hcut.behind
          have hs2 := X2.out.size
          clear hcut hks hsome hbody hb2 HZC hlt1 B1 c0
          unfold nodV
          go_wp2_with fail
          refine (readDeclaration_c B c.1 _ w2 HA.out (by omega)).mono ?_
          rintro e w3 ⟨hdc, hb3⟩
          have X3 : Hid (Below wr.heap.size wr w3) := X2.out.trans (hb3.mono hs2)
          have HB3 : Hid (Sl (fun b => b < B) w3 (.slice ba c.2.2.length bc) c.2.2) := HBH.out.below hb3 (by omega)
          have hs3 := X3.out.size
          clear hb3
          cases hd : declOf c.1 with
          | none =>
            rw [hd] at hdc
            have hdc' : e = _ := hdc
            subst hdc'
            have X4 : Hid (Below wr.heap.size wr (w3.alloc (.cells #[.string ⟨#[]⟩, .slice none 0 0, .bool false] 181))) := X3.out.alloc hs3 _
            have HC4 : Hid (DcI B w l (.slice ua acc.length uc) acc cs (.slice ba c.2.2.length bc) c.2.2 (w3.alloc (.cells #[.string ⟨#[]⟩, .slice none 0 0, .bool false] 181))) := ⟨own_keep HR.out.row fun k hk => X4.out.block k (HR.out.row.lt k hk).2, HR.out.cat.keep CDec.fair (fun _ h => h) (fun k hk => by have hk' : k < B := hk; exact X4.out.block k (by omega)), HB3.out.below ((Below.refl _ _).alloc (Nat.le_refl _) _) (by omega), HR.out.below.trans (X4.out.mono hsr), by rw [HEQ.out, hd]; rfl, by omega⟩
            clear hd
            go_wp2_with fail
            go_roundg (gk - 1)
            case measure => omega
            case rel => exact ⟨_, _, acc, cs, c.2.2, rfl, rfl, by omega, hal, HC4.out⟩
          | some d =>
            rw [hd] at hdc
            obtain ⟨vv, rfl, hvv, hps⟩ := hdc
            obtain ⟨da, dc, rfl⟩ := hvv.form
            have HD : Hid (declOf c.1 = some d) := hd
            have HVV : Hid (Sl (fun b => b < B) w3 (.slice da d.val.length dc) d.val) := hvv
            clear hd hvv
            have hln2 : c.2.2.length + 1 ≤ (n :: r).length := by simp; omega
            have D4 : Hid (Q3 181 (w3.alloc (.cells #[.string d.prop, .slice da d.val.length dc, .bool d.imp] 181)) w3.heap.size (.string d.prop) (.slice da d.val.length dc) (.bool d.imp)) := Q3.new _ _ _ _ _
            have X4 : Hid (Below wr.heap.size wr (w3.alloc (.cells #[.string d.prop, .slice da d.val.length dc, .bool d.imp] 181))) := X3.out.alloc hs3 _
            have XX4 : Hid (Below w3.heap.size w3 (w3.alloc (.cells #[.string d.prop, .slice da d.val.length dc, .bool d.imp] 181))) := (Below.refl _ _).alloc (Nat.le_refl _) _
            go_upto_region 7 with fail
            generalize w3.alloc (.cells #[.string d.prop, .slice da d.val.length dc, .bool d.imp] 181) = w4 at *
            generalize w3.heap.size = gd at *
            obtain ⟨p0, p1, p2⟩ := D4.out.cs
            have R4 : Hid (w4.ownsRow w.heap.size 181 3 (.slice ua acc.length uc) acc.length cs) := own_keep HR.out.row fun k hk => X4.out.block k (HR.out.row.lt k hk).2
            have CT4 : Hid (CatG CDec (fun b => b < B) w4 acc cs) := HR.out.cat.keep CDec.fair (fun _ h => h) (fun k hk => by have hk' : k < B := hk; exact X4.out.block k (by omega))
            have BW4 : Hid (Below w.heap.size w w4) := HR.out.below.trans (X4.out.mono hsr)
            have hs4 := BW4.out.size
            have HO5 : Hid ((w4.alloc (.cells #[.string d.prop, .slice da d.val.length dc, .bool d.imp] 181)).ownsRow w.heap.size 181 3 (.slice ua acc.length uc) acc.length cs) := R4.out.alloc _
            have hgd := D4.out.lt
            have HVV4 : Hid (Sl (fun b => b < B) w4 (.slice da d.val.length dc) d.val) := HVV.out.below XX4.out (by omega)
            have HB4 : Hid (Sl (fun b => b < B) w4 (.slice ba c.2.2.length bc) c.2.2) := HB3.out.below XX4.out (by omega)
            go_wp2_with (at_builtin; go_must (refine wpList_append_own_at _ rfl _ _ 174 rfl w.heap.size 181 iT (.agg #[.string ⟨#[]⟩, .slice none 0 0, .bool false]) 3 48 Tryz.underlying174 HI.out.1 HI.out.2.1 HI.out.2.2.1 HI.out.2.2.2 rfl (by omega) (.slice ua acc.length uc) acc.length cs rfl HO5.out ⟨w4.heap.size, 0, none⟩ 1 1 [.string d.prop, .slice da d.val.length dc, .bool d.imp] rfl rfl (new3 _ _ _ _ _) (by simp [Value.oneCell']) (by unfold maxLen; omega) (by omega) (by simp; omega) ?_))
            intro v6 w6 hown6 hgr6 _ hat6
            have hlo : ∀ rr, Value.ownBlock (.slice ua acc.length uc) = some rr → w.heap.size ≤ rr := fun rr hr => (HO5.out.lt rr hr).1
            have hb6 : Below w.heap.size w4 w6 := ((Below.refl _ _).alloc hs4 _).grown hgr6 (by simp; omega) hlo
            have HC6 : Hid (DcI B w l v6 (acc ++ [d]) (cs ++ [.string d.prop, .slice da d.val.length dc, .bool d.imp]) (.slice ba c.2.2.length bc) c.2.2 w6) := ⟨by rw [List.length_append]; exact hown6, CatG.snoc _ _ (CT4.out.keep CDec.fair (fun _ h => h) (fun k hk => hb6.block k (Nat.lt_of_lt_of_le hk hB))) d _ ⟨_, rfl, HVV4.out.below hb6 hB, hps⟩, HB4.out.below hb6 hB, BW4.out.trans hb6, by rw [HEQ.out, HD.out, List.append_assoc]; rfl, by simp; omega⟩
            have hl6' : (acc ++ [d]).length ≤ 600 := by have := HC6.out.ln; omega
            clear hown6 hgr6 hat6 hlo hb6
            go_wp2_with fail
            go_roundg (gk - 1)
            case measure => omega
            case rel => exact ⟨_, _, acc ++ [d], _, c.2.2, rfl, rfl, by omega, hl6', HC6.out⟩
        · have k10 : n.t.kind = 10 := by simpa using hk10
          obtain ⟨c, Hc⟩ : ∃ c, Hid (cutN (fun m => isSemi m || isBody m) r = c) := ⟨_, hid rfl⟩
          have HEQ : Hid (decls l = acc ++ decls c.2.2) := by show _ = _; rw [HR.out.eq, decls_at k10, Hc.out]
          have hrl : c.2.2.length ≤ r.length := by have := cutN_len (fun m => isSemi m || isBody m) r; rw [Hc.out] at this; omega
          clear k10 nk1
          go_wp2_with fail
          refine (readAt_c B n r _ wr HR.out.now (by omega)).mono ?_
          rw [Hc.out]
          rintro e w2 ⟨hv, bv, v2, rfl, hrv, hbh, hb2⟩
          obtain ⟨va, vc, rfl⟩ := hrv.head.form
          obtain ⟨bl, hbl, hbe⟩ := hrv.body
          obtain ⟨ka, kc, rfl⟩ := hbl.form
          obtain ⟨ba, bc, rfl⟩ := hbh.form
          obtain ⟨sb, Hsb⟩ : ∃ sb, Hid ((bodyOf c.2.1).isSome = sb) := ⟨_, hid rfl⟩
          rw [Hsb.out]
          have HC4 : Hid (DcI B w l (.slice ua acc.length uc) acc cs (.slice ba c.2.2.length bc) c.2.2 w2) := ⟨own_keep HR.out.row fun k hk => hb2.block k (HR.out.row.lt k hk).2, HR.out.cat.keep CDec.fair (fun _ h => h) (fun k hk => by have hk' : k < B := hk; exact hb2.block k (by omega)), hbh, HR.out.below.trans (hb2.mono hsr), HEQ.out, by omega⟩
          clear hrv hbl hbe hbh hb2 c0
          go_wp2_with fail
          go_roundg (gk - 1)
          case measure => omega
          case rel => exact ⟨_, _, acc, cs, c.2.2, rfl, rfl, by omega, hal, HC4.out⟩
      · have k1 : n.t.kind = 1 := by simpa using hk1
        obtain ⟨a1, hr1, hS1⟩ := HR.out.now.cut1v
        have HC4 : Hid (DcI B w l (.slice ua acc.length uc) acc cs (.slice a1 r.length (cap' - 1)) r wr) := ⟨HR.out.row, HR.out.cat, hS1, HR.out.below, by rw [HR.out.eq, decls_blank (by simp [blankN, k1])], by omega⟩
        clear hS1 k1
        go_wp2_with fail
        go_roundg (gk - 1)
        case measure => omega
        case rel => exact ⟨_, _, acc, cs, r, rfl, rfl, by omega, hal, HC4.out⟩
end
end Go.Proofs.YtlliliddljkbfaaGreat
