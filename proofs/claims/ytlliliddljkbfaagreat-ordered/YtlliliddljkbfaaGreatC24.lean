import Derived.Test.YtlliliddljkbfaaGreatC21
import Derived.Test.YtlliliddljkbfaaGreatC23
import Derived.Deep.QuietTactic
import Derived.BigQuiet
namespace Go.Proofs.YtlliliddljkbfaaGreat
set_option maxHeartbeats 64000000
set_option maxRecDepth 100000
open Go.RowKit Sp
section
attribute [local go_sem] fld_tok fld_ins fld_kind fld_word
theorem cutN_len (st : Nd → Bool) : ∀ (l : List Nd), (cutN st l).2.2.length ≤ l.length - 1
  | [] => by simp [cutN]
  | n :: r => by
    unfold cutN
    split
    · simp
    · have := cutN_len st r
      simp only [List.length_cons]
      show (cutN st r).2.2.length ≤ _
      omega
theorem rulesF_fuel (sh : Bool) : ∀ (f g : Nat) (l : List Nd), l.length ≤ f → l.length ≤ g → rulesF f sh l = rulesF g sh l := by
  intro f
  induction f with
  | zero =>
    intro g l hf hg
    obtain rfl : l = [] := List.eq_nil_of_length_eq_zero (by omega)
    cases g <;> rfl
  | succ f ih =>
    intro g l hf hg
    cases l with
    | nil => cases g <;> rfl
    | cons n r =>
      cases g with
      | zero => simp at hg
      | succ g =>
        simp only [List.length_cons] at hf hg
        unfold rulesF
        dsimp only
        have h1 := cutN_len (fun m => isSemi m || isBody m) r
        have h2 := cutN_len isBody (n :: r)
        simp only [List.length_cons] at h2
        rw [ih g r (by omega) (by omega), ih g (cutN (fun m => isSemi m || isBody m) r).2.2 (by omega) (by omega), ih g (cutN isBody (n :: r)).2.2 (by omega) (by omega)]
theorem rules_pass {sh : Bool} {n : Nd} {r : List Nd} (h : passN sh n = true) : rules sh (n :: r) = rules sh r := by
  unfold rules
  show rulesF (r.length + 1) sh (n :: r) = _
  conv => lhs; unfold rulesF
  rw [if_pos h]
theorem cutN_found (st : Nd → Bool) : ∀ (l : List Nd) (b : Nd), (cutN st l).2.1 = some b → st b = true
  | [], b, h => by simp [cutN] at h
  | n :: r, b, h => by
    unfold cutN at h
    split at h
    · simp at h; subst h; assumption
    · exact cutN_found st r b h
theorem cutN_lost (st : Nd → Bool) : ∀ (l : List Nd), (cutN st l).2.1 = none → (cutN st l).2.2 = []
  | [], _ => by simp [cutN]
  | n :: r, h => by
    unfold cutN at h ⊢
    split at h
    · simp at h
    · rename_i hq
      rw [if_neg hq]
      exact cutN_lost st r h
def ruleMk (o : ByteArray × List Nd × Option (List Nd) × List Nd) : List Rule :=
  if o.1 = nob then (match o.2.2.1 with | none => [] | some b => [⟨none, o.2.1, some b⟩]) else [⟨some o.1, o.2.1, o.2.2.1⟩]
theorem rules_one {sh : Bool} {n : Nd} {r : List Nd} (h : passN sh n = false) (hn : n.t.kind = 10 → n.t.word ≠ nob) : rules sh (n :: r) = ruleMk (ruleOne n r) ++ rules sh (ruleOne n r).2.2.2 := by
  have h1 := cutN_len (fun m => isSemi m || isBody m) r
  have h2 := cutN_len isBody (n :: r)
  simp only [List.length_cons] at h2
  unfold rules
  show rulesF (r.length + 1) sh (n :: r) = _
  conv => lhs; unfold rulesF
  rw [if_neg (by rw [h]; simp)]
  by_cases hk : n.t.kind = 10
  · rw [if_pos hk]
    unfold ruleOne ruleMk
    rw [if_pos hk]
    simp only
    rw [if_neg (hn hk), rulesF_fuel sh r.length _ _ (by omega) (Nat.le_refl _)]
    rfl
  · rw [if_neg hk]
    unfold ruleOne ruleMk
    rw [if_neg hk]
    simp only [if_true]
    cases hc : (cutN isBody (n :: r)).2.1 with
    | none =>
      rw [cutN_lost _ _ hc]
      rfl
    | some b =>
      have hb := cutN_found _ _ _ hc
      show (⟨none, _, some b.kids⟩ : Rule) :: _ = (match (if isBody b = true then some b.kids else none) with | none => [] | some q => [(⟨none, _, some q⟩ : Rule)]) ++ _
      rw [if_pos hb, rulesF_fuel sh r.length _ _ (by omega) (Nat.le_refl _)]
      rfl
def CRule : Law Rule := fun S w r cs => ∃ hv bv bl, cs = [.string (r.at_.getD nob), hv, .bool r.body.isSome, bv] ∧ Sl S w hv r.head ∧ Sl S w bv bl ∧ (∀ b, r.body = some b → bl = b) ∧ (∀ x, r.at_ = some x → x ≠ nob ∧ x.size ≤ 4000000)
theorem CRule.fair : Fair CRule := by
  rintro S S' w w' r cs hS hw ⟨hv, bv, bl, h1, h2, h3, h4, h5⟩
  exact ⟨hv, bv, bl, h1, h2.keep hS hw, h3.keep hS hw, h4, h5⟩
theorem CRule.sized : Sized CRule 4 := by rintro S w r cs ⟨hv, bv, bl, rfl, _⟩; rfl
theorem info_rule : ∃ i, Tryz.prog.info? 130 = some i ∧ i.zero = some (.agg #[.string ⟨#[]⟩, .slice none 0 0, .bool false, .slice none 0 0]) ∧ i.size = 4 ∧ i.bytes = 72 := info_parts (by kernel_rfl)
structure RaI (B : Nat) (sh : Bool) (w : World) (l : List Nd) (u : Value) (acc : List Rule) (cs : List Value) (cv : Value) (cur : List Nd) (wr : World) : Prop where
  row : wr.ownsRow w.heap.size 130 4 u acc.length cs
  cat : CatG CRule (fun b => b < B) wr acc cs
  now : Sl (fun b => b < B) wr cv cur
  below : Below w.heap.size w wr
  eq : rules sh l = acc ++ rules sh cur
  ln : acc.length + cur.length ≤ l.length
end
section
attribute [local go_sem] fld_tok fld_ins fld_kind fld_word
theorem Q4.put {T : TypeId} {w : World} {b : Nat} {x0 x1 x2 x3 : Value} (h : Q4 T w b x0 x1 x2 x3) (y0 y1 y2 y3 : Value) : Q4 T (set4 w b y0 y1 y2 y3) b y0 y1 y2 y3 := by
  have h' : w.heap[b]? = _ := h
  show _ = _
  simp only [set4, World.setCell, Array.getElem?_modify, h']
  simp
theorem ruleMk_some {at_ : ByteArray} {hd : List Nd} {bo : Option (List Nd)} {rest : List Nd} (h : bo.isSome = true ∨ at_ ≠ nob) : ∃ rr, ruleMk (at_, hd, bo, rest) = [rr] ∧ rr.at_.getD nob = at_ ∧ rr.head = hd ∧ rr.body = bo := by
  unfold ruleMk
  by_cases he : at_ = nob
  · rcases h with h | h
    · cases bo with
      | none => cases h
      | some b => exact ⟨_, by simp only [he, if_true]; rfl, by simp [he], rfl, rfl⟩
    · exact absurd he h
  · exact ⟨_, by simp only [if_neg he]; rfl, rfl, rfl, rfl⟩
theorem ruleMk_name {at_ : ByteArray} {hd : List Nd} {bo : Option (List Nd)} {rest : List Nd} {rr : Rule} (h : ruleMk (at_, hd, bo, rest) = [rr]) {x : ByteArray} (hx : rr.at_ = some x) : x ≠ nob := by
  unfold ruleMk at h
  by_cases he : at_ = nob
  · simp only [he, if_true] at h
    cases bo with
    | none => cases h
    | some b => cases h; cases hx
  · simp only [if_neg he] at h
    cases h
    cases hx
    exact he
end
def unitB (s : ByteArray) (i : Nat) : Bool := plainN s i (bt s i) && !(i == 0 && (bt s i == 101 || bt s i == 69))
theorem unit1_c (s : ByteArray) (i b : Nat) (w : World) (hi : i < s.size) (hs : s.size ≤ 4000000) (hb : VarB w b (.string s) 9) :
    Calls Tryz.prog 279 #[.int .i64 (i : Int), .pointer (some ⟨b, 0, none⟩)] w fun e w' => e = .returned (.bool (unitB s i)) ∧ Below w.heap.size w w' := by
  have c0 := hb.c
  have hix := index_pk s i hi
  rw [pk_bt hi] at hix
  have h0 : (i : Int) < (s.size : Int) := by omega
  have HU : Hid (unitB s i = (plainN s i (bt s i) && !(i == 0 && (((bt s i).toNat : Int) == 101 || ((bt s i).toNat : Int) == 69)))) := by
    show _ = _
    unfold unitB
    rw [show (bt s i == 101) = (((bt s i).toNat : Int) == 101) from byteI _ 101 (by omega), show (bt s i == 69) = (((bt s i).toNat : Int) == 69) from byteI _ 69 (by omega)]
  obtain ⟨z, Hz⟩ : ∃ z, Hid (plainN s i (bt s i) = z) := ⟨_, hid rfl⟩
  rw [Hz.out] at HU
  have hpn := plainName_c s i w hi hs
  rw [Hz.out] at hpn
  have HPN : Hid (Calls Tryz.prog 251 #[.string s, .int .i64 (i : Int)] w fun e w' => e = .returned (.bool z) ∧ w' = w) := hpn
  clear hpn hb
  obtain ⟨c, Hc⟩ : ∃ c, Hid (((bt s i).toNat : Int) = c) := ⟨_, hid rfl⟩
  rw [Hc.out] at HU hix
  cases z
  · have HV : Hid (unitB s i = false) := HU.out
    go_enter Tryz.func279, Tryz.ntmps279
    go_wp2_with fail
    refine HPN.out.mono ?_
    rintro e wq ⟨rfl, hwq⟩
    rw [hwq]
    go_wp2_with fail
    go_ret
    exact ⟨rbool HV.out.symm, Below.refl _ _⟩
  · by_cases h1 : i = 0
    · subst h1
      have HV : Hid (unitB s 0 = (((s[0]'hi).toNat : Int) != 101 && ((s[0]'hi).toNat : Int) != 69)) := by
        show _ = _
        rw [HU.out, ← Hc.out, bt_in hi]
        cases h2 : (((s[0]'hi).toNat : Int) == 101) <;> cases h3 : (((s[0]'hi).toNat : Int) == 69) <;> simp [bne, h2, h3]
      clear HU Hc hix
      go_enter Tryz.func279, Tryz.ntmps279
      go_wp2_with fail
      refine HPN.out.mono ?_
      rintro e wq ⟨rfl, hwq⟩
      rw [hwq]
      go_wp2_with fail
      all_goals
        go_ret
        first | exact ⟨rbool HV.out.symm, Below.refl _ _⟩ | exact ⟨rbool (by rw [HV.out]; simp [*]), Below.refl _ _⟩
    · have h1' : (0 : Int) < (i : Int) := by omega
      have h1d : decide ((0 : Int) < (i : Int)) = true := decide_eq_true h1'
      have h1b : (i == 0) = false := by simpa using h1
      have HV : Hid (unitB s i = true) := by show _ = _; rw [HU.out, h1b]; rfl
      clear h1 h1b HU
      go_enter Tryz.func279, Tryz.ntmps279
      go_wp2_with fail
      refine HPN.out.mono ?_
      rintro e wq ⟨rfl, hwq⟩
      rw [hwq]
      go_wp2_with fail
      go_ret
      exact ⟨rbool HV.out.symm, Below.refl _ _⟩
theorem unit_c (s : ByteArray) (w : World) (hs : s.size ≤ 4000000) : Calls Tryz.prog 230 #[.string s] w fun e w' => e = .returned (.string (unitO s)) ∧ Below w.heap.size w w' := by
  have hmf := mf_run
  have V1 : Hid (VarB (w.alloc (.cells #[.string s] 9)) w.heap.size (.string s) 9) := VarB.new _ _ _
  have B1 : Hid (Below w.heap.size w (w.alloc (.cells #[.string s] 9))) := (Below.refl _ _).alloc (Nat.le_refl _) _
  have c0 := V1.out.c
  have HV : Hid (unitO s = joinB (pcs (unitB s) s s.size)) := outF_all _ s
  go_enter Tryz.func230, Tryz.ntmps230
  go_wp2_with fail
  generalize w.alloc (.cells #[.string s] 9) = w2 at *
  refine (bytewise_c s _ _ (unitB s) w2 hs (fun _ _ => rfl) ?_).mono ?_
  · intro i hi w' hb'
    exact unit1_c s i _ w' hi hs (V1.out.below hb' V1.out.lt)
  · rintro e wq ⟨rfl, hwq⟩
    have B3 : Hid (Below w.heap.size w wq) := B1.out.trans (hwq.mono B1.out.size)
    clear hwq
    go_wp2_with fail
    go_ret
    exact ⟨by rw [HV.out]; rfl, B3.out⟩
theorem wLink_c (s : ByteArray) (w : World) (hs : s.size ≤ 4000000) : Calls Tryz.prog 231 #[.string s] w fun e w' => e = .returned (.string (linkO s)) ∧ Below w.heap.size w w' := by
  have hmf := mf_run
  have V1 : Hid (VarB (w.alloc (.cells #[.string s] 9)) w.heap.size (.string s) 9) := VarB.new _ _ _
  have B1 : Hid (Below w.heap.size w (w.alloc (.cells #[.string s] 9))) := (Below.refl _ _).alloc (Nat.le_refl _) _
  have c0 := V1.out.c
  obtain ⟨m, Hm⟩ : ∃ m, Hid (joinB (pcs (fun i => plainK (bt s i)) s s.size) = m) := ⟨_, hid rfl⟩
  have HV : Hid (linkO s = joinB [⟨#[117, 114, 108, 40]⟩, m, ⟨#[41]⟩]) := by show _ = _; unfold linkO; rw [outF_all, Hm.out]; simp [joinB, urlO, b1]
  have hms : m.size ≤ 16000000 := by rw [← Hm.out, size_joinB]; have := pcs_total (fun i => plainK (bt s i)) s s.size; omega
  go_enter Tryz.func231, Tryz.ntmps231
  go_wp2_with fail
  generalize w.alloc (.cells #[.string s] 9) = w2 at *
  refine (bytewise_c s _ _ (fun i => plainK (bt s i)) w2 hs (fun _ _ => rfl) ?_).mono ?_
  · intro i hi w' hb'
    exact link1_c s i _ w' hi (V1.out.below hb' V1.out.lt)
  · rw [Hm.out]
    rintro e wq ⟨rfl, hwq⟩
    have B3 : Hid (Below w.heap.size w wq) := B1.out.trans (hwq.mono B1.out.size)
    have hs3 := B3.out.size
    clear hwq c0
    go_wp2_with fail
    refine (Join_c [⟨#[117, 114, 108, 40]⟩, m, ⟨#[41]⟩] wq.heap.size _ _ (row3 wq ⟨#[117, 114, 108, 40]⟩ m ⟨#[41]⟩) (by simp) (by show 4 + (m.size + (1 + 0)) ≤ _; omega)).mono ?_
    rintro e w5 ⟨rfl, hb5⟩
    have B5 : Hid (Below w.heap.size w w5) := (B3.out.alloc hs3 _).trans (hb5.mono (by simp; omega))
    clear hb5
    go_wp2_with fail
    go_ret
    exact ⟨by rw [HV.out]; rfl, B5.out⟩
theorem outF_size (ok : Nat → UInt8 → Bool) : ∀ (l : List UInt8) (i : Nat), (outF ok i l).size ≤ 4 * l.length
  | [], i => by show 0 ≤ _; omega
  | c :: r, i => by
    unfold outF
    rw [ByteArray.size_append]
    have := outF_size ok r (i + 1)
    have h2 : (if ok i c = true then b1 c else escO c).size ≤ 4 := by
      split
      · show 1 ≤ 4; omega
      · show 4 ≤ 4; omega
    simp only [List.length_cons]
    omega
theorem size_list (s : ByteArray) : s.data.toList.length = s.size := Array.length_toList
theorem nameO_size (s : ByteArray) : (nameO s).size ≤ 4 * s.size := by have := outF_size (plainN s) s.data.toList 0; rw [size_list] at this; exact this
theorem unitO_size (s : ByteArray) : (unitO s).size ≤ 4 * s.size := by have := outF_size (fun i c => plainN s i c && !(i == 0 && (c == 101 || c == 69))) s.data.toList 0; rw [size_list] at this; exact this
theorem textO_size (s : ByteArray) : (textO s).size ≤ 4 * s.size + 2 := by
  have := outF_size (fun _ c => plainT c) s.data.toList 0
  rw [size_list] at this
  unfold textO
  rw [ByteArray.size_append, ByteArray.size_append]
  show 1 + (_ + 1) ≤ _
  omega
theorem linkO_size (s : ByteArray) : (linkO s).size ≤ 4 * s.size + 5 := by
  have := outF_size (fun _ c => plainK c) s.data.toList 0
  rw [size_list] at this
  unfold linkO
  rw [ByteArray.size_append, ByteArray.size_append]
  show 4 + (_ + 1) ≤ _
  omega
mutual
def wzN : Nd → Nat
  | .mk t k => 4 * t.word.size + 4 * t.unit.size + 16 + wzL k
def wzL : List Nd → Nat
  | [] => 0
  | n :: r => wzN n + wzL r
end
theorem closing_size (t : Tok) : (closing t).size ≤ 1 := by
  unfold closing
  repeat' split
  all_goals decide
theorem oneO_size (t : Tok) (inn : ByteArray) : (oneO t inn).size ≤ 4 * t.word.size + 4 * t.unit.size + 12 + inn.size := by
  have h1 := nameO_size t.word
  have h2 := unitO_size t.unit
  have h3 := textO_size t.word
  have h4 := linkO_size t.word
  have h5 := closing_size t
  have e : ∀ (c : UInt8), (b1 c).size = 1 := fun _ => rfl
  unfold oneO
  by_cases k1 : t.kind = 1
  · rw [if_pos k1, e]; omega
  rw [if_neg k1]
  by_cases k2 : t.kind = 2
  · rw [if_pos k2]; omega
  rw [if_neg k2]
  by_cases k3 : t.kind = 3
  · rw [if_pos k3]; show 2 ≤ _; omega
  rw [if_neg k3]
  by_cases k4 : t.kind = 4
  · rw [if_pos k4, ByteArray.size_append]; show 1 + _ ≤ _; omega
  rw [if_neg k4]
  by_cases k6 : t.kind = 6
  · rw [if_pos k6, ByteArray.size_append]; show _ + 1 ≤ _; omega
  rw [if_neg k6]
  by_cases k7 : t.kind = 7
  · rw [if_pos k7, ByteArray.size_append]; omega
  rw [if_neg k7]
  by_cases k8 : t.kind = 8
  · rw [if_pos k8]; show 4 ≤ _; omega
  rw [if_neg k8]
  by_cases k9 : t.kind = 9
  · rw [if_pos k9]; show 3 ≤ _; omega
  rw [if_neg k9]
  by_cases k10 : t.kind = 10
  · rw [if_pos k10, ByteArray.size_append]; show 1 + _ ≤ _; omega
  rw [if_neg k10]
  by_cases k11 : t.kind = 11
  · rw [if_pos k11, ByteArray.size_append, ByteArray.size_append, ByteArray.size_append]; show _ + (1 + (_ + 1)) ≤ _; omega
  rw [if_neg k11]
  by_cases k12 : t.kind = 12
  · rw [if_pos k12]; omega
  rw [if_neg k12]
  by_cases k13 : t.kind = 13
  · rw [if_pos k13]; show 6 ≤ _; omega
  rw [if_neg k13]
  by_cases k14 : t.kind = 14
  · rw [if_pos k14]; omega
  rw [if_neg k14]
  by_cases k15 : t.kind = 15
  · rw [if_pos k15, ByteArray.size_append, ByteArray.size_append]; omega
  rw [if_neg k15]
  omega
mutual
theorem writN_size : ∀ (n : Nd), (writN n).size + 4 ≤ wzN n
  | .mk t k => by
    unfold writN wzN
    have := oneO_size t (writF none k)
    have := writF_size none k
    omega
theorem writF_size : ∀ (a : Option Tok) (l : List Nd), (writF a l).size ≤ wzL l
  | a, [] => by unfold writF; show 0 ≤ _; omega
  | a, n :: r => by
    unfold writF wzL
    have h1 := writN_size n
    have h2 := writF_size (some n.t) r
    have h3 : (gapO a n.t).size ≤ 4 := by
      unfold gapO
      split
      · show 0 ≤ 4; omega
      · split
        · show 4 ≤ 4; omega
        · show 0 ≤ 4; omega
    rw [ByteArray.size_append]
    split
    · have : nob.size = 0 := rfl
      omega
    · rw [ByteArray.size_append]; omega
end
section
attribute [local go_sem] fld_tok fld_ins fld_kind fld_word
theorem new_below (w : World) (o : Obj) : Below w.heap.size w (w.alloc o) := (Below.refl _ _).alloc (Nat.le_refl _) _
theorem wBlank_c (t : Tok) (ka : Option Addr) (kl kc : Nat) (w : World) :
    Calls Tryz.prog 163 #[nodV t (.slice ka kl kc)] w fun e w' => e = .returned (.bool (decide (t.kind = 1))) ∧ Below w.heap.size w w' := by
  unfold nodV
  have A2 : Hid (VB (w.alloc (.cells #[.int .i64 t.kind, .string t.word, .string t.unit, .slice ka kl kc] 199)) w.heap.size (.int .i64 t.kind) (.string t.word) (.string t.unit) (.slice ka kl kc)) := VB.new _ _ _ _ _
  have B2 : Hid (Below w.heap.size w (w.alloc (.cells #[.int .i64 t.kind, .string t.word, .string t.unit, .slice ka kl kc] 199))) := new_below _ _
  obtain ⟨a0, a1, a2, a3⟩ := A2.out.cs
  have HV : Hid ((t.kind == 1) = decide (t.kind = 1)) := by show _ = _; rw [Bool.eq_iff_iff]; simp
  go_enter Tryz.func163, Tryz.ntmps163
  go_wp2_with fail
  go_ret
  exact ⟨rbool HV.out, B2.out⟩
def markT (t : Tok) : Bool := decide (t.kind = 15) && softW t.word
theorem isMark_c (t : Tok) (ka : Option Addr) (kl kc : Nat) (w : World) :
    Calls Tryz.prog 228 #[nodV t (.slice ka kl kc)] w fun e w' => e = .returned (.bool (markT t)) ∧ Below w.heap.size w w' := by
  unfold nodV
  have A2 : Hid (VB (w.alloc (.cells #[.int .i64 t.kind, .string t.word, .string t.unit, .slice ka kl kc] 199)) w.heap.size (.int .i64 t.kind) (.string t.word) (.string t.unit) (.slice ka kl kc)) := VB.new _ _ _ _ _
  have B2 : Hid (Below w.heap.size w (w.alloc (.cells #[.int .i64 t.kind, .string t.word, .string t.unit, .slice ka kl kc] 199))) := new_below _ _
  obtain ⟨a0, a1, a2, a3⟩ := A2.out.cs
  have HM : Hid (markT t = (decide (t.kind = 15) && (decide (t.word = b1 44) || decide (t.word = b1 58) || decide (t.word = b1 59) || decide (t.word = b1 41) || decide (t.word = b1 93) || decide (t.word = b1 125)))) := rfl
  have e1 : (t.word.toList == [44]) = decide (t.word = b1 44) := bytes_lit _ _
  have e2 : (t.word.toList == [58]) = decide (t.word = b1 58) := bytes_lit _ _
  have e3 : (t.word.toList == [59]) = decide (t.word = b1 59) := bytes_lit _ _
  have e4 : (t.word.toList == [41]) = decide (t.word = b1 41) := bytes_lit _ _
  have e5 : (t.word.toList == [93]) = decide (t.word = b1 93) := bytes_lit _ _
  have e6 : (t.word.toList == [125]) = decide (t.word = b1 125) := bytes_lit _ _
  cases hk : (t.kind == 15)
  · have hk' : ¬ t.kind = 15 := by simpa using hk
    have HV : Hid (markT t = false) := by show _ = _; rw [HM.out, decide_eq_false hk']; rfl
    clear hk'
    go_enter Tryz.func228, Tryz.ntmps228
    go_wp2_with fail
    go_ret
    exact ⟨rbool HV.out.symm, B2.out⟩
  · have hk' : t.kind = 15 := by simpa using hk
    have HV : Hid (markT t = (decide (t.word = b1 44) || decide (t.word = b1 58) || decide (t.word = b1 59) || decide (t.word = b1 41) || decide (t.word = b1 93) || decide (t.word = b1 125))) := by show _ = _; rw [HM.out, decide_eq_true hk']; rfl
    clear hk' HM
    generalize decide (t.word = b1 44) = x1 at *
    generalize decide (t.word = b1 58) = x2 at *
    generalize decide (t.word = b1 59) = x3 at *
    generalize decide (t.word = b1 41) = x4 at *
    generalize decide (t.word = b1 93) = x5 at *
    generalize decide (t.word = b1 125) = x6 at *
    cases x1
    · cases x2
      · cases x3
        · cases x4
          · cases x5
            · cases x6
              · go_enter Tryz.func228, Tryz.ntmps228
                go_wp2_with fail
                go_ret
                exact ⟨rbool HV.out.symm, B2.out⟩
              · go_enter Tryz.func228, Tryz.ntmps228
                go_wp2_with fail
                go_ret
                exact ⟨rbool HV.out.symm, B2.out⟩
            · go_enter Tryz.func228, Tryz.ntmps228
              go_wp2_with fail
              go_ret
              exact ⟨rbool HV.out.symm, B2.out⟩
          · go_enter Tryz.func228, Tryz.ntmps228
            go_wp2_with fail
            go_ret
            exact ⟨rbool HV.out.symm, B2.out⟩
        · go_enter Tryz.func228, Tryz.ntmps228
          go_wp2_with fail
          go_ret
          exact ⟨rbool HV.out.symm, B2.out⟩
      · go_enter Tryz.func228, Tryz.ntmps228
        go_wp2_with fail
        go_ret
        exact ⟨rbool HV.out.symm, B2.out⟩
    · go_enter Tryz.func228, Tryz.ntmps228
      go_wp2_with fail
      go_ret
      exact ⟨rbool HV.out.symm, B2.out⟩
def endsT (t : Tok) : Bool := decide (t.kind = 1) || !decide (closing t = nob) || markT t
def begsT (t : Tok) : Bool := decide (t.kind = 1) || signT t (b1 91) || signT t (b1 123) || markT t
theorem parts_eq (a b : Tok) : parts a b = (!endsT a && !begsT b) := by
  unfold parts endsT begsT
  rw [show softT a = (decide (a.kind = 1) || markT a) from rfl, show softT b = (decide (b.kind = 1) || markT b) from rfl]
  cases decide (a.kind = 1) <;> cases decide (b.kind = 1) <;> cases markT a <;> cases markT b <;> cases decide (closing a = nob) <;> cases signT b (b1 91) <;> cases signT b (b1 123) <;> rfl
theorem endsAlone_c (t : Tok) (ka : Option Addr) (kl kc : Nat) (w : World) :
    Calls Tryz.prog 164 #[nodV t (.slice ka kl kc)] w fun e w' => e = .returned (.bool (endsT t)) ∧ Below w.heap.size w w' := by
  have hu : nodV t (.slice ka kl kc) = .agg #[.int .i64 t.kind, .string t.word, .string t.unit, .slice ka kl kc] := rfl
  rw [hu]
  have A2 : Hid (VB (w.alloc (.cells #[.int .i64 t.kind, .string t.word, .string t.unit, .slice ka kl kc] 199)) w.heap.size (.int .i64 t.kind) (.string t.word) (.string t.unit) (.slice ka kl kc)) := VB.new _ _ _ _ _
  have B2 : Hid (Below w.heap.size w (w.alloc (.cells #[.int .i64 t.kind, .string t.word, .string t.unit, .slice ka kl kc] 199))) := new_below _ _
  obtain ⟨a0, a1, a2, a3⟩ := A2.out.cs
  obtain ⟨x1, H1⟩ : ∃ x, Hid (decide (t.kind = 1) = x) := ⟨_, hid rfl⟩
  obtain ⟨x2, H2⟩ : ∃ x, Hid (decide (closing t = nob) = x) := ⟨_, hid rfl⟩
  have HE : Hid (endsT t = (x1 || !x2 || markT t)) := by show _ = _; unfold endsT; rw [H1.out, H2.out]
  go_enter Tryz.func164, Tryz.ntmps164
  go_wp2_with fail
  generalize w.alloc (.cells #[.int .i64 t.kind, .string t.word, .string t.unit, .slice ka kl kc] 199) = w2 at *
  refine (wBlank_c t ka kl kc _).mono ?_
  rw [H1.out]
  rintro e w3 ⟨rfl, hb3⟩
  have B3 : Hid (Below w.heap.size w w3) := B2.out.trans (hb3.mono B2.out.size)
  have A3 : Hid (VB w3 w.heap.size (.int .i64 t.kind) (.string t.word) (.string t.unit) (.slice ka kl kc)) := A2.out.below hb3
  clear hb3 a0 a1 a2 a3
  obtain ⟨a0, a1, a2, a3⟩ := A3.out.cs
  cases x1
  · go_wp2_with fail
    refine (Closer_c t _).mono ?_
    rintro e w4 ⟨rfl, hb4⟩
    have B4 : Hid (Below w.heap.size w w4) := B3.out.trans (hb4.mono B3.out.size)
    have A4 : Hid (VB w4 w.heap.size (.int .i64 t.kind) (.string t.word) (.string t.unit) (.slice ka kl kc)) := A3.out.below hb4
    clear hb4 a0 a1 a2 a3
    obtain ⟨a0, a1, a2, a3⟩ := A4.out.cs
    have e1 : ((closing t).toList == []) = x2 := by rw [← H2.out]; exact bytes_lit _ _
    by_cases he : (closing t).toList = []
    · have HV : Hid (endsT t = markT t) := by show _ = _; rw [HE.out, ← e1, he]; rfl
      clear e1
      go_wp2_with fail
      refine (isMark_c t ka kl kc _).mono ?_
      rintro e w5 ⟨rfl, hb5⟩
      have B5 : Hid (Below w.heap.size w w5) := B4.out.trans (hb5.mono B4.out.size)
      clear hb5
      go_wp2_with fail
      go_ret
      exact ⟨rbool HV.out.symm, B5.out⟩
    · have HV : Hid (endsT t = true) := by show _ = _; rw [HE.out, ← e1, show ((closing t).toList == []) = false from by cases hq : (closing t).toList with | nil => exact absurd hq he | cons _ _ => rfl]; rfl
      clear e1
      go_wp2_with fail
      go_ret
      exact ⟨rbool HV.out.symm, B4.out⟩
  · have HV : Hid (endsT t = true) := HE.out
    go_wp2_with fail
    go_ret
    exact ⟨rbool HV.out.symm, B3.out⟩
theorem beginsAlone_c (t : Tok) (ka : Option Addr) (kl kc : Nat) (w : World) :
    Calls Tryz.prog 165 #[nodV t (.slice ka kl kc)] w fun e w' => e = .returned (.bool (begsT t)) ∧ Below w.heap.size w w' := by
  have hu : nodV t (.slice ka kl kc) = .agg #[.int .i64 t.kind, .string t.word, .string t.unit, .slice ka kl kc] := rfl
  rw [hu]
  have A2 : Hid (VB (w.alloc (.cells #[.int .i64 t.kind, .string t.word, .string t.unit, .slice ka kl kc] 199)) w.heap.size (.int .i64 t.kind) (.string t.word) (.string t.unit) (.slice ka kl kc)) := VB.new _ _ _ _ _
  have B2 : Hid (Below w.heap.size w (w.alloc (.cells #[.int .i64 t.kind, .string t.word, .string t.unit, .slice ka kl kc] 199))) := new_below _ _
  obtain ⟨a0, a1, a2, a3⟩ := A2.out.cs
  obtain ⟨x1, H1⟩ : ∃ x, Hid (decide (t.kind = 1) = x) := ⟨_, hid rfl⟩
  obtain ⟨x2, H2⟩ : ∃ x, Hid (signT t (b1 91) = x) := ⟨_, hid rfl⟩
  obtain ⟨x3, H3⟩ : ∃ x, Hid (signT t (b1 123) = x) := ⟨_, hid rfl⟩
  have HE : Hid (begsT t = (x1 || x2 || x3 || markT t)) := by show _ = _; unfold begsT; rw [H1.out, H2.out, H3.out]
  go_enter Tryz.func165, Tryz.ntmps165
  go_wp2_with fail
  generalize w.alloc (.cells #[.int .i64 t.kind, .string t.word, .string t.unit, .slice ka kl kc] 199) = w2 at *
  refine (wBlank_c t ka kl kc _).mono ?_
  rw [H1.out]
  rintro e w3 ⟨rfl, hb3⟩
  have B3 : Hid (Below w.heap.size w w3) := B2.out.trans (hb3.mono B2.out.size)
  have A3 : Hid (VB w3 w.heap.size (.int .i64 t.kind) (.string t.word) (.string t.unit) (.slice ka kl kc)) := A2.out.below hb3
  clear hb3 a0 a1 a2 a3
  obtain ⟨a0, a1, a2, a3⟩ := A3.out.cs
  cases x1
  · go_wp2_with fail
    refine (IsSign_c t _ (b1 91) _).mono ?_
    rw [H2.out]
    rintro e w4 ⟨rfl, hb4⟩
    have B4 : Hid (Below w.heap.size w w4) := B3.out.trans (hb4.mono B3.out.size)
    have A4 : Hid (VB w4 w.heap.size (.int .i64 t.kind) (.string t.word) (.string t.unit) (.slice ka kl kc)) := A3.out.below hb4
    clear hb4 a0 a1 a2 a3
    obtain ⟨a0, a1, a2, a3⟩ := A4.out.cs
    cases x2
    · go_wp2_with fail
      refine (IsSign_c t _ (b1 123) _).mono ?_
      rw [H3.out]
      rintro e w5 ⟨rfl, hb5⟩
      have B5 : Hid (Below w.heap.size w w5) := B4.out.trans (hb5.mono B4.out.size)
      have A5 : Hid (VB w5 w.heap.size (.int .i64 t.kind) (.string t.word) (.string t.unit) (.slice ka kl kc)) := A4.out.below hb5
      clear hb5 a0 a1 a2 a3
      obtain ⟨a0, a1, a2, a3⟩ := A5.out.cs
      cases x3
      · have HV : Hid (begsT t = markT t) := HE.out
        go_wp2_with fail
        refine (isMark_c t ka kl kc _).mono ?_
        rintro e w6 ⟨rfl, hb6⟩
        have B6 : Hid (Below w.heap.size w w6) := B5.out.trans (hb6.mono B5.out.size)
        clear hb6
        go_wp2_with fail
        go_ret
        exact ⟨rbool HV.out.symm, B6.out⟩
      · have HV : Hid (begsT t = true) := HE.out
        go_wp2_with fail
        go_ret
        exact ⟨rbool HV.out.symm, B5.out⟩
    · have HV : Hid (begsT t = true) := HE.out
      go_wp2_with fail
      go_ret
      exact ⟨rbool HV.out.symm, B4.out⟩
  · have HV : Hid (begsT t = true) := HE.out
    go_wp2_with fail
    go_ret
    exact ⟨rbool HV.out.symm, B3.out⟩
end
end Go.Proofs.YtlliliddljkbfaaGreat
