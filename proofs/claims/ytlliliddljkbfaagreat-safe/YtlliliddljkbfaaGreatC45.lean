import Derived.Test.YtlliliddljkbfaaGreatC4
import Derived.Test.YtlliliddljkbfaaGreatC13
import Derived.Test.YtlliliddljkbfaaGreatC44
namespace Go.Proofs.YtlliliddljkbfaaGreat.Sp
set_option maxHeartbeats 64000000
set_option maxRecDepth 100000
inductive Pc where
  | blank
  | text (w : ByteArray)
  | hash (w : ByteArray)
  | num (w : ByteArray)
  | pct (w : ByteArray)
  | dim (w u : ByteArray)
  | at_ (w : ByteArray)
  | ident (w : ByteArray)
  | func (w : ByteArray)
  | sign (c : UInt8)
  | com
def Pc.bytes : Pc → List UInt8
  | .blank => [32]
  | .text w => textL w
  | .hash w => 35 :: nameL w
  | .num w => w.data.toList
  | .pct w => w.data.toList ++ [37]
  | .dim w u => w.data.toList ++ unitL u
  | .at_ w => 64 :: nameL w
  | .ident w => nameL w
  | .func w => nameL w ++ [40]
  | .sign c => [c]
  | .com => [47, 42, 42, 47]
def Pc.tok : Pc → Option Tok
  | .blank => some (Tok.k 1)
  | .text w => some (Tok.w 2 (zqB w))
  | .hash w => some (Tok.w 4 (zqB w))
  | .num w => some (Tok.w 5 w)
  | .pct w => some (Tok.w 6 w)
  | .dim w u => some ⟨7, w, zqB u⟩
  | .at_ w => some (Tok.w 10 (zqB w))
  | .ident w => some (Tok.w 14 (zqB w))
  | .func w => some (Tok.w 11 (zqB w))
  | .sign c => some (Tok.w 15 (b1 c))
  | .com => none
def signsL : List UInt8 := [33, 36, 37, 40, 41, 42, 43, 44, 45, 46, 47, 58, 59, 61, 62, 91, 93, 94, 123, 125, 126]
def Pc.ok : Pc → Prop
  | .hash w => 0 < w.size
  | .num w => NumW w
  | .pct w => NumW w
  | .dim w u => NumW w ∧ 0 < u.size
  | .at_ w => 0 < w.size
  | .ident w => 0 < w.size
  | .func w => 0 < w.size
  | .sign c => c ∈ signsL
  | _ => True
def Pc.stop : Pc → List UInt8 → Prop
  | .blank, r => blankI (hdI r) = false
  | .hash _, r => stopN r
  | .num _, r => stopD (hdI r) ∧ hdI r ≠ 37 ∧ lettI (hdI r) = false ∧ hdI r ≠ 45 ∧ hdI r ≠ 92
  | .dim _ _, r => stopN r
  | .at_ _, r => stopN r
  | .ident _, r => stopN r ∧ hdI r ≠ 40 ∧ hdI r ≠ 62
  | .func w, r => small (zqB w) = url → ∃ r', r = 34 :: r' ∨ r = 32 :: 34 :: r'
  | .sign c, r => (c = 43 → digI (hdI r) = false ∧ hdI r ≠ 46) ∧ (c = 46 → digI (hdI r) = false) ∧ (c = 45 → digI (hdI r) = false ∧ hdI r ≠ 46 ∧ lettI (hdI r) = false ∧ hdI r ≠ 45 ∧ hdI r ≠ 92) ∧ (c = 47 → hdI r ≠ 42)
  | .com, r => ¬ (hdI r = 47 ∧ hdI r.tail = 42)
  | _, _ => True
theorem nameL_hd {w : ByteArray} (hw : 0 < w.size) (r : List UInt8) : ∃ c l, nameL w ++ r = c :: l ∧ ((c.toNat : Int) = 92 ∨ (c.toNat : Int) = 45 ∨ lettI (c.toNat : Int) = true) := by
  obtain ⟨l, hl⟩ : ∃ l, w.data.toList = l := ⟨_, rfl⟩
  have hsz : w.size = l.length := by rw [← hl]; rfl
  unfold nameL
  rw [hl]
  match l, hsz with
  | [], hsz => rw [hsz] at hw; exact absurd hw (Nat.lt_irrefl _)
  | c :: l, _ =>
    unfold outL
    by_cases ho : plainN w 0 c = true
    · rw [if_pos ho]
      refine ⟨c, _, rfl, ?_⟩
      rcases plainN_cases ho with h | h | h
      · exact .inr (.inr h)
      · exact absurd rfl h.2.1
      · rw [h.1]; exact .inr (.inl rfl)
    · rw [if_neg ho]
      exact ⟨92, _, rfl, .inl rfl⟩
theorem com_none {s : ByteArray} {i : Nat} (h : ¬ (pk s i = 47 ∧ pk s (i + 1) = 42)) : com s i = i := by
  unfold com
  cases s.size with
  | zero => rfl
  | succ f => unfold comF; rw [if_neg h]
theorem hd_tail {s : ByteArray} {i : Nat} {l : List UInt8} (h : At s i l) (hi : pk s i ≠ -1) : pk s (i + 1) = hdI l.tail := by
  cases l with
  | nil => exact absurd h.hd hi
  | cons c r => exact h.tl.hd
theorem com_some {s : ByteArray} {i : Nat} {r : List UInt8} (h : At s i (47 :: 42 :: 42 :: 47 :: r)) (hr : ¬ (hdI r = 47 ∧ hdI r.tail = 42)) : com s i = i + 4 := by
  have h4 : At s (i + 4) r := At.app (a := [47, 42, 42, 47]) h
  have e0 : pk s i = 47 := h.hd
  have e1 : pk s (i + 1) = 42 := h.tl.hd
  have e2 : pk s (i + 2) = 42 := h.tl.tl.hd
  have e3 : pk s (i + 2 + 1) = 47 := h.tl.tl.tl.hd
  have hl2 := h.tl.tl.lt
  have hstar : star s (i + 2) = i + 2 := by
    unfold star
    cases s.size with
    | zero => rfl
    | succ f => unfold starF; rw [if_neg (fun hh => hh.2 ⟨e2, e3⟩)]
  have hno : ¬ (pk s (i + 4) = 47 ∧ pk s (i + 4 + 1) = 42) := fun hh => hr ⟨by rw [← h4.hd]; exact hh.1, by rw [← hd_tail h4 (by rw [hh.1]; decide)]; exact hh.2⟩
  unfold com
  obtain ⟨f, hf⟩ : ∃ f, s.size = f + 1 := ⟨s.size - 1, by omega⟩
  rw [hf]
  unfold comF
  rw [if_pos ⟨e0, e1⟩, hstar, if_neg (by omega)]
  cases f with
  | zero => rfl
  | succ f => unfold comF; rw [if_neg hno]
theorem blk_one {s : ByteArray} {i : Nat} {r : List UInt8} (h : At s i (32 :: r)) (hr : blankI (hdI r) = false) : blk s i = i + 1 := by
  have e0 : pk s i = 32 := h.hd
  have e1 : pk s (i + 1) = hdI r := h.tl.hd
  have hl := h.lt
  unfold blk
  obtain ⟨f, hf⟩ : ∃ f, s.size = f + 1 := ⟨s.size - 1, by omega⟩
  rw [hf]
  unfold blkF
  rw [e0, if_pos (by decide)]
  cases f with
  | zero => rfl
  | succ f => unfold blkF; rw [e1, hr]; rfl
theorem blk_none {s : ByteArray} {i : Nat} (h : blankI (pk s i) = false) : blk s i = i := by
  unfold blk
  cases s.size with
  | zero => rfl
  | succ f => unfold blkF; rw [h]; rfl
theorem dig_not {c : Int} (h : digI c = true) : blankI c = false ∧ quoteI c = false ∧ c ≠ 35 ∧ c ≠ 46 ∧ signI c = false := by
  have := dig_nn h
  unfold blankI quoteI signI
  simp
  omega
theorem num_first {s : ByteArray} {i : Nat} (h : numB s i = true) : blankI (pk s i) = false ∧ quoteI (pk s i) = false ∧ pk s i ≠ 35 ∧ pk s i ≠ 47 := by
  unfold numB sgn at h
  by_cases hs : signI (pk s i) = true
  · unfold signI at hs
    unfold blankI quoteI
    simp at hs ⊢
    omega
  · rw [if_neg hs] at h
    simp only [Bool.or_eq_true, Bool.and_eq_true, beq_iff_eq] at h
    rcases h with h | h
    · have := dig_not h
      have := dig_nn h
      refine ⟨(dig_not h).1, ?_, ?_, ?_⟩
      · exact (dig_not h).2.1
      · omega
      · omega
    · rw [h.1]; decide
theorem lett_not {c : Int} (h : lettI c = true ∨ c = 45 ∨ c = 92) : blankI c = false ∧ quoteI c = false ∧ c ≠ 35 ∧ c ≠ 64 ∧ c ≠ 60 ∧ c ≠ 46 ∧ c ≠ 43 ∧ c ≠ 47 ∧ digI c = false := by
  unfold lettI at h
  unfold blankI quoteI digI
  simp at h ⊢
  omega
theorem At.at {s : ByteArray} {i : Nat} {a r : List UInt8} (h : At s i (a ++ r)) {d : Nat} (hd : d < a.length) : pk s (i + d) = ((a[d]).toNat : Int) := by
  have h1 : a = a.take d ++ a[d] :: a.drop (d + 1) := by rw [← List.drop_eq_getElem_cons hd, List.take_append_drop]
  have h2 : At s i (a.take d ++ (a[d] :: a.drop (d + 1) ++ r)) := by rw [← List.append_assoc, ← h1]; exact h
  have h3 := h2.app
  rw [List.length_take, Nat.min_eq_left (by omega)] at h3
  exact h3.hd
def fineB (c : UInt8) : Prop := 32 ≤ c.toNat ∧ c.toNat ≤ 126 ∧ c.toNat ≠ 60 ∧ c.toNat ≠ 62
theorem hexD_fine : ∀ n, n < 16 → 32 ≤ (hexD n).toNat ∧ (hexD n).toNat ≤ 126 ∧ (hexD n).toNat ≠ 60 ∧ (hexD n).toNat ≠ 62 := by decide
theorem escL_fine (c : UInt8) : ∀ b ∈ escL c, fineB b := by
  have hc := c.toNat_lt
  intro b hb
  unfold escL at hb
  simp only [List.mem_cons, List.not_mem_nil, or_false] at hb
  rcases hb with rfl | rfl | rfl | rfl
  · unfold fineB; decide
  · exact hexD_fine _ (by omega)
  · exact hexD_fine _ (by omega)
  · unfold fineB; decide
theorem outL_fine (ok : Nat → UInt8 → Bool) (hok : ∀ i c, ok i c = true → fineB c) : ∀ (l : List UInt8) (j : Nat), ∀ b ∈ outL ok j l, fineB b
  | [], _, b, hb => by simp [outL] at hb
  | c :: l, j, b, hb => by
    unfold outL at hb
    rcases List.mem_append.1 hb with hb | hb
    · split at hb
      · rename_i ho
        rw [List.mem_singleton.1 hb]; exact hok j c ho
      · exact escL_fine c b hb
    · exact outL_fine ok hok l (j + 1) b hb
theorem plainN_fine {w : ByteArray} {i : Nat} {c : UInt8} (h : plainN w i c = true) : fineB c := by
  unfold plainN at h
  unfold fineB
  split at h
  · rename_i hd
    unfold plainD at hd; simp at hd; omega
  · split at h
    · rename_i hc; rw [hc]; decide
    · unfold plainL at h
      simp at h
      rcases h with h | h
      · omega
      · rw [h]; decide
theorem nameL_fine (w : ByteArray) : ∀ b ∈ nameL w, fineB b := outL_fine _ (fun _ _ h => plainN_fine h) _ _
theorem unitL_fine (w : ByteArray) : ∀ b ∈ unitL w, fineB b := outL_fine _ (fun _ _ h => plainN_fine (Bool.and_eq_true_iff.1 h).1) _ _
theorem textL_fine (w : ByteArray) : ∀ b ∈ textL w, fineB b := by
  intro b hb
  unfold textL at hb
  simp only [List.mem_cons, List.mem_append, List.not_mem_nil, or_false] at hb
  rcases hb with rfl | hb | rfl
  · unfold fineB; decide
  · refine outL_fine _ (fun _ c h => ?_) _ _ b hb
    unfold plainT at h
    simp at h
    refine ⟨h.1.1, h.1.2, fun e => h.2.1.2 (UInt8.toNat_inj.1 (by simpa using e)), fun e => h.2.2 (UInt8.toNat_inj.1 (by simpa using e))⟩
  · unfold fineB; decide
theorem name_num {s w : ByteArray} {i : Nat} {r : List UInt8} (hw : 0 < w.size) (h : At s i (nameL w ++ r)) : numB s i = false := by
  obtain ⟨c, l, hc, hcc⟩ := nameL_hd hw r
  have hb := name_beg hw h
  have e : pk s i = (c.toNat : Int) := by rw [hc] at h; exact h.hd
  have hn := lett_not (c := pk s i) (by rw [e]; exact hcc.elim (fun h => .inr (.inr h)) (fun h => h.elim (fun h => .inr (.inl h)) .inl))
  unfold numB sgn
  by_cases hs : signI (pk s i) = true
  · rw [if_pos hs]
    have h45 : pk s i = 45 := by
      unfold signI at hs
      simp at hs
      omega
    unfold begB at hb
    rw [if_pos h45] at hb
    simp only [Bool.or_eq_true, beq_iff_eq] at hb
    have hx : lettI (pk s (i + 1)) = true ∨ pk s (i + 1) = 45 ∨ pk s (i + 1) = 92 := by
      rcases hb with (hb | hb) | hb
      · exact .inl hb
      · exact .inr (.inl hb)
      · exact .inr (.inr (esc_at hb).1)
    have := lett_not hx
    rw [this.2.2.2.2.2.2.2.2]
    simp [this.2.2.2.2.2.1]
  · rw [if_neg hs, hn.2.2.2.2.2.2.2.2]
    simp [hn.2.2.2.2.2.1]
theorem name_see {s w : ByteArray} {i : Nat} {r : List UInt8} (hw : 0 < w.size) (hr : stopN r) (h62 : hdI r ≠ 62) (h : At s i (nameL w ++ r)) : sees3 s i = false := by
  have hl : 0 < (nameL w).length := Nat.lt_of_lt_of_le hw (outL_len _ _ _)
  have hrr := h.app.hd
  have hmem : ∀ d, (hd : d < (nameL w).length) → pk s (i + d) ≠ 62 := fun d hd e => by
    rw [h.at hd] at e
    have := (nameL_fine w _ (List.getElem_mem hd)).2.2.2
    omega
  cases hq : sees3 s i with
  | false => rfl
  | true =>
    exfalso
    unfold sees3 at hq
    simp only [Bool.and_eq_true, beq_iff_eq] at hq
    rcases Nat.lt_trichotomy (nameL w).length 2 with hlt | he | hgt
    · have : (nameL w).length = 1 := by omega
      rw [this, hq.1.2] at hrr
      have h1 := hr.1
      rw [← hrr] at h1
      exact absurd h1 (by decide)
    · rw [he, hq.2] at hrr
      exact h62 hrr.symm
    · exact hmem 2 hgt hq.2
theorem sign_facts : ∀ c ∈ signsL, blankI (c.toNat : Int) = false ∧ quoteI (c.toNat : Int) = false ∧ (c.toNat : Int) ≠ 35 ∧ (c.toNat : Int) ≠ 60 ∧ (c.toNat : Int) ≠ 64 ∧ lettI (c.toNat : Int) = false ∧ (c.toNat : Int) ≠ 92 ∧ digI (c.toNat : Int) = false := by decide
theorem sign_scan {s : ByteArray} {i : Nat} {c : UInt8} {r : List UInt8} (hc : c ∈ signsL) (hs : (Pc.sign c).stop r) (h : At s i (c :: r)) : token s i = (Tok.w 15 (b1 c), i + 1) := by
  have e : pk s i = (c.toNat : Int) := h.hd
  have e1 : pk s (i + 1) = hdI r := h.tl.hd
  obtain ⟨s1, s2, s3, s4⟩ := hs
  obtain ⟨a1, a2, a3, a4, a5, a6, a7, a8⟩ := sign_facts c hc
  have hnum : numB s i = false := by
    unfold numB sgn
    rw [e]
    by_cases h43 : c = 43
    · subst h43
      rw [if_pos (by decide), e1, (s1 rfl).1]
      simp [(s1 rfl).2]
    · by_cases h45 : c = 45
      · subst h45
        rw [if_pos (by decide), e1, (s3 rfl).1]
        simp [(s3 rfl).2.1]
      · have hns : ¬ signI (c.toNat : Int) = true := by
          unfold signI
          simp
          exact ⟨fun h => h43 (UInt8.toNat_inj.1 (by simpa using (show c.toNat = 43 by omega))), fun h => h45 (UInt8.toNat_inj.1 (by simpa using (show c.toNat = 45 by omega)))⟩
        rw [if_neg hns, e, a8, e1]
        by_cases h46 : c = 46
        · subst h46
          rw [s2 rfl]; rfl
        · have : (c.toNat : Int) ≠ 46 := fun h => h46 (UInt8.toNat_inj.1 (by simpa using (show c.toNat = 46 by omega)))
          simp [this]
  have hbeg : begB s i = false := by
    unfold begB
    rw [e]
    by_cases h45 : c = 45
    · subst h45
      rw [if_pos (by decide)]
      unfold escB
      rw [e1, (s3 rfl).2.2.1]
      simp [(s3 rfl).2.2.2.1, (s3 rfl).2.2.2.2]
    · rw [if_neg (fun h => h45 (UInt8.toNat_inj.1 (by simpa using (show c.toNat = 45 by omega)))), a6]
      unfold escB
      rw [e]
      simp [a7]
  have hs4 : sees4 s i = false := by unfold sees4; rw [e]; simp [a4]
  have hs3 : sees3 s i = false := by
    unfold sees3
    rw [e, e1]
    by_cases h45 : c = 45
    · subst h45
      simp [(s3 rfl).2.2.2.1]
    · have : (c.toNat : Int) ≠ 45 := fun h => h45 (UInt8.toNat_inj.1 (by simpa using (show c.toNat = 45 by omega)))
      simp [this]
  unfold token
  rw [e, a1, a2, hnum, hs4, hs3, hbeg, if_neg (by simp), if_neg (by simp), if_neg (fun h => a3 h.1), if_neg (by simp), if_neg (by simp), if_neg (by simp), if_neg (fun h => a5 h.1), if_neg (by simp), h.one]
end Go.Proofs.YtlliliddljkbfaaGreat.Sp
namespace Go.Proofs.YtlliliddljkbfaaGreat.Sp
set_option maxHeartbeats 64000000
set_option maxRecDepth 100000
theorem At.extract {s a : ByteArray} {i : Nat} {r : List UInt8} (h : At s i (a.data.toList ++ r)) : s.extract i (i + a.size) = a := by
  apply ByteArray.ext
  apply Array.toList_inj.1
  have hl : a.size = a.data.toList.length := rfl
  rw [ByteArray.data_extract, Array.toList_extract, List.extract_eq_take_drop, h.2, hl]
  simp
theorem num_scan {s w : ByteArray} {i : Nat} {r : List UInt8} (hw : NumW w) (hr : stopD (hdI r)) (h : At s i (w.data.toList ++ r)) : token s i = numeric s i ∧ numE s i = i + w.size ∧ s.extract i (numE s i) = w ∧ At s (i + w.size) r ∧ com s i = i := by
  obtain ⟨hb, he⟩ := hw s i r h hr
  have hf := num_first hb
  refine ⟨?_, he, ?_, h.app, com_none fun hh => hf.2.2.2 hh.1⟩
  · unfold token
    rw [hf.1, hf.2.1, hb, if_neg (by simp), if_neg (by simp), if_neg (fun hh => hf.2.2.1 hh.1), if_pos rfl]
  · rw [he]; exact h.extract
theorem beg_false {s : ByteArray} {i : Nat} {r : List UInt8} (h : At s i r) (h1 : lettI (hdI r) = false) (h2 : hdI r ≠ 45) (h3 : hdI r ≠ 92) : begB s i = false := by
  unfold begB
  rw [h.hd, if_neg h2, h1]
  unfold escB
  rw [h.hd]
  simp [h3]
theorem name_first {s w : ByteArray} {i : Nat} {r : List UInt8} (hw : 0 < w.size) (h : At s i (nameL w ++ r)) : blankI (pk s i) = false ∧ quoteI (pk s i) = false ∧ pk s i ≠ 35 ∧ pk s i ≠ 64 ∧ pk s i ≠ 60 ∧ pk s i ≠ 47 := by
  obtain ⟨c, l, hc, hcc⟩ := nameL_hd hw r
  have e : pk s i = (c.toNat : Int) := by rw [hc] at h; exact h.hd
  have hn := lett_not (c := pk s i) (by rw [e]; exact hcc.elim (fun h => .inr (.inr h)) (fun h => h.elim (fun h => .inr (.inl h)) .inl))
  exact ⟨hn.1, hn.2.1, hn.2.2.1, hn.2.2.2.1, hn.2.2.2.2.1, hn.2.2.2.2.2.2.2.1⟩
theorem named_scan {s w : ByteArray} {i : Nat} {r : List UInt8} (hw : 0 < w.size) (hr : stopN r) (h62 : hdI r ≠ 62) (h : At s i (nameL w ++ r)) : token s i = named s i ∧ name s i = (zqB w, i + (nameL w).length) ∧ At s (i + (nameL w).length) r ∧ com s i = i := by
  have hf := name_first hw h
  refine ⟨?_, name_scan hr h, h.app, com_none fun hh => hf.2.2.2.2.2 hh.1⟩
  have h4 : sees4 s i = false := by unfold sees4; simp [hf.2.2.2.2.1]
  unfold token
  rw [hf.1, hf.2.1, name_num hw h, h4, name_see hw hr h62 h, name_beg hw h, if_neg (by simp), if_neg (by simp), if_neg (fun hh => hf.2.2.1 hh.1), if_neg (by simp), if_neg (by simp), if_neg (by simp), if_neg (fun hh => hf.2.2.2.1 hh.1), if_pos rfl]
theorem unitL_hd {w : ByteArray} (hw : 0 < w.size) (r : List UInt8) : stopD (hdI (unitL w ++ r)) ∧ hdI (unitL w ++ r) ≠ 37 := by
  obtain ⟨l, hl⟩ : ∃ l, w.data.toList = l := ⟨_, rfl⟩
  have hsz : w.size = l.length := by rw [← hl]; rfl
  unfold unitL
  rw [hl]
  match l, hsz with
  | [], hsz => rw [hsz] at hw; exact absurd hw (Nat.lt_irrefl _)
  | c :: l, _ =>
    unfold outL
    by_cases ho : (plainN w 0 c && !((0 : Nat) == 0 && (c == 101 || c == 69))) = true
    · rw [if_pos ho]
      show stopD (c.toNat : Int) ∧ (c.toNat : Int) ≠ 37
      obtain ⟨h1, h2⟩ := Bool.and_eq_true_iff.1 ho
      simp at h2
      have e1 : c.toNat ≠ 101 := fun e => h2.1 (UInt8.toNat_inj.1 (by simpa using e))
      have e2 : c.toNat ≠ 69 := fun e => h2.2 (UInt8.toNat_inj.1 (by simpa using e))
      rcases plainN_cases h1 with h | h | h
      · have hn := lett_not (.inl h)
        unfold lettI at h
        simp at h
        exact ⟨⟨hn.2.2.2.2.2.2.2.2, hn.2.2.2.2.2.1, by omega, by omega⟩, by omega⟩
      · exact absurd rfl h.2.1
      · rw [h.1]; unfold stopD; decide
    · rw [if_neg ho]
      show stopD (92 : Int) ∧ (92 : Int) ≠ 37
      unfold stopD; decide
theorem piece_scan {s : ByteArray} {i : Nat} {r : List UInt8} {p : Pc} (hp : p.ok) (hs : p.stop r) (hne : p ≠ .com) (h : At s i (p.bytes ++ r)) : ∃ t, p.tok = some t ∧ token s i = (t, i + p.bytes.length) ∧ com s i = i := by
  match p, hp, hs, hne, h with
  | .blank, _, hs, _, h =>
    have h0 : At s i (32 :: r) := h
    have e : pk s i = 32 := h0.hd
    refine ⟨_, rfl, ?_, com_none fun hh => by rw [e] at hh; exact absurd hh.1 (by decide)⟩
    unfold token
    rw [e, if_pos (by decide), blk_one h0 hs]
    rfl
  | .text w, _, _, _, h =>
    refine ⟨_, rfl, text_scan h, com_none fun hh => ?_⟩
    have e : pk s i = 34 := At.hd (l := 34 :: _) h
    rw [e] at hh; exact absurd hh.1 (by decide)
  | .hash w, hw, hs, _, h =>
    have h0 : At s i (35 :: (nameL w ++ r)) := h
    have e : pk s i = 35 := h0.hd
    refine ⟨_, rfl, ?_, com_none fun hh => by rw [e] at hh; exact absurd hh.1 (by decide)⟩
    unfold token
    rw [e, if_neg (by decide), if_neg (by decide), if_pos ⟨rfl, beg_goes (name_beg hw h0.tl)⟩, name_scan hs h0.tl]
    refine Prod.ext rfl ?_
    simp [Pc.bytes]; omega
  | .num w, hw, hs, _, h =>
    obtain ⟨h1, h2, h3, h4, h5⟩ := num_scan hw hs.1 h
    refine ⟨_, rfl, ?_, h5⟩
    rw [h1]
    unfold numeric
    simp only [h2]
    rw [if_neg (by rw [h4.hd]; exact hs.2.1), beg_false h4 hs.2.2.1 hs.2.2.2.1 hs.2.2.2.2, if_neg (by simp), ← h2, h3, h2]
    rfl
  | .pct w, hw, _, _, h =>
    have h0 : At s i (w.data.toList ++ 37 :: r) := by
      have : At s i (w.data.toList ++ [37] ++ r) := h
      simpa using this
    obtain ⟨h1, h2, h3, h4, h5⟩ := num_scan (r := 37 :: r) hw (show stopD (37 : Int) by unfold stopD; decide) h0
    refine ⟨_, rfl, ?_, h5⟩
    rw [h1]
    unfold numeric
    simp only [h2]
    rw [if_pos (by rw [h4.hd]; rfl), ← h2, h3, h2]
    refine Prod.ext rfl ?_
    have hl : w.size = w.data.toList.length := rfl
    show _ = i + (w.data.toList ++ [37]).length
    simp only [List.length_append, List.length_cons, List.length_nil]; omega
  | .dim w u, hw, hs, _, h =>
    have h0 : At s i (w.data.toList ++ (unitL u ++ r)) := by
      have : At s i (w.data.toList ++ unitL u ++ r) := h
      simpa using this
    have hu : stopD (hdI (unitL u ++ r)) ∧ hdI (unitL u ++ r) ≠ 37 := unitL_hd hw.2 r
    obtain ⟨h1, h2, h3, h4, h5⟩ := num_scan hw.1 hu.1 h0
    refine ⟨_, rfl, ?_, h5⟩
    rw [h1]
    unfold numeric
    simp only [h2]
    rw [if_neg (by rw [h4.hd]; exact hu.2), unit_beg hw.2 h4, if_pos rfl, ← h2, h3, h2, unit_scan hs h4]
    refine Prod.ext rfl ?_
    have hl : w.size = w.data.toList.length := rfl
    show _ = i + (w.data.toList ++ unitL u).length
    rw [List.length_append]
    show i + w.size + (unitL u).length = _
    omega
  | .at_ w, hw, hs, _, h =>
    have h0 : At s i (64 :: (nameL w ++ r)) := h
    have e : pk s i = 64 := h0.hd
    refine ⟨_, rfl, ?_, com_none fun hh => by rw [e] at hh; exact absurd hh.1 (by decide)⟩
    have hnum : numB s i = false := by unfold numB sgn; rw [e, if_neg (by decide), e]; rfl
    have h4 : sees4 s i = false := by unfold sees4; rw [e]; rfl
    have h3 : sees3 s i = false := by unfold sees3; rw [e]; rfl
    unfold token
    rw [e, hnum, h4, h3, if_neg (by decide), if_neg (by decide), if_neg (fun hh => absurd hh.1 (by decide)), if_neg (by simp), if_neg (by simp), if_neg (by simp), if_pos ⟨rfl, name_beg hw h0.tl⟩, name_scan hs h0.tl]
    refine Prod.ext rfl ?_
    simp [Pc.bytes]; omega
  | .ident w, hw, hs, _, h =>
    obtain ⟨h1, h2, h3, h5⟩ := named_scan hw hs.1 hs.2.2 h
    refine ⟨_, rfl, ?_, h5⟩
    rw [h1]
    unfold named
    simp only [h2]
    rw [if_neg (by rw [h3.hd]; exact hs.2.1)]
    rfl
  | .func w, hw, hs, _, h =>
    have h0 : At s i (nameL w ++ 40 :: r) := by
      have : At s i (nameL w ++ [40] ++ r) := h
      simpa using this
    obtain ⟨h1, h2, h3, h5⟩ := named_scan (r := 40 :: r) hw ⟨show nameI 40 = false by decide, show (40 : Int) ≠ 92 by decide⟩ (show (40 : Int) ≠ 62 by decide) h0
    refine ⟨_, rfl, ?_, h5⟩
    rw [h1]
    unfold named
    simp only [h2]
    have e : pk s (i + (nameL w).length) = 40 := h3.hd
    rw [if_pos e, if_neg]
    · refine Prod.ext rfl ?_
      simp [Pc.bytes]; omega
    · rintro ⟨hu, hq⟩
      obtain ⟨r', hr | hr⟩ := hs hu
      · have h6 := h3.tl
        rw [hr] at h6
        have e6 : pk s (i + (nameL w).length + 1) = 34 := h6.hd
        rw [blk_none (by rw [e6]; decide), e6] at hq
        exact absurd hq (by decide)
      · have h6 := h3.tl
        rw [hr] at h6
        have e6 : pk s (i + (nameL w).length + 1 + 1) = 34 := h6.tl.hd
        rw [blk_one h6 (show blankI 34 = false by decide), e6] at hq
        exact absurd hq (by decide)
  | .sign c, hc, hs, _, h =>
    have h0 : At s i (c :: r) := h
    refine ⟨_, rfl, sign_scan hc hs h0, com_none fun hh => ?_⟩
    have e : pk s i = (c.toNat : Int) := h0.hd
    have e1 : pk s (i + 1) = hdI r := h0.tl.hd
    rw [e, e1] at hh
    exact hs.2.2.2 (UInt8.toNat_inj.1 (by simpa using (show c.toNat = 47 by omega))) hh.2
  | .com, _, _, hne, _ => exact absurd rfl hne
def flat : List Pc → List UInt8
  | [] => []
  | p :: r => p.bytes ++ flat r
theorem flat_append : ∀ (a b : List Pc), flat (a ++ b) = flat a ++ flat b
  | [], _ => rfl
  | p :: r, b => by show p.bytes ++ flat (r ++ b) = p.bytes ++ flat r ++ flat b; rw [flat_append r b, List.append_assoc]
def Good : List Pc → List UInt8 → Prop
  | [], _ => True
  | p :: l, r => p.ok ∧ p.stop (flat l ++ r) ∧ Good l r
theorem Good.append : ∀ {a b : List Pc} {r : List UInt8}, Good a (flat b ++ r) → Good b r → Good (a ++ b) r
  | [], _, _, _, h => h
  | p :: l, b, r, h, h' => ⟨h.1, by show p.stop (flat (l ++ b) ++ r); rw [flat_append, List.append_assoc]; exact h.2.1, Good.append h.2.2 h'⟩
def ptoks (l : List Pc) : List Tok := l.filterMap Pc.tok
theorem ptoks_append (a b : List Pc) : ptoks (a ++ b) = ptoks a ++ ptoks b := List.filterMap_append
theorem Pc.pos {p : Pc} (h : p.ok) : 0 < p.bytes.length := by
  match p, h with
  | .blank, _ => exact Nat.one_pos
  | .text w, _ => simp [Pc.bytes, textL]
  | .hash w, _ => simp [Pc.bytes]
  | .num w, h =>
    show 0 < w.data.toList.length
    cases hl : w.data.toList with
    | cons c l => simp
    | nil =>
      exfalso
      have := (h ByteArray.empty 0 [] ⟨Nat.zero_le _, by rw [hl]; rfl⟩ (by unfold stopD hdI; decide)).1
      revert this; decide
  | .pct w, _ => simp [Pc.bytes]
  | .dim w u, h =>
    have := outL_len (fun i c => plainN u i c && !(i == 0 && (c == 101 || c == 69))) u.data.toList 0
    have h2 : 0 < u.data.toList.length := h.2
    simp only [Pc.bytes, List.length_append, unitL]
    omega
  | .at_ w, _ => simp [Pc.bytes]
  | .ident w, h =>
    have := outL_len (plainN w) w.data.toList 0
    have h2 : 0 < w.data.toList.length := h
    simp only [Pc.bytes, nameL]
    omega
  | .func w, _ => simp [Pc.bytes]
  | .sign c, _ => simp [Pc.bytes]
  | .com, _ => simp [Pc.bytes]
theorem scan_list {s : ByteArray} : ∀ (l : List Pc) (i f : Nat), At s i (flat l) → Good l [] → (flat l).length ≤ f → tokF s f (com s i) = ptoks l
  | [], i, f, h, _, _ => by
    have h0 : At s i [] := h
    have e : pk s i = -1 := h0.hd
    rw [com_none (fun hh => by rw [e] at hh; exact absurd hh.1 (by decide))]
    have := h0.size
    cases f with
    | zero => rfl
    | succ f => unfold tokF; rw [if_pos (by simp at this; omega)]; rfl
  | p :: l, i, f, h, hg, hf => by
    have h0 : At s i (p.bytes ++ flat l) := h
    obtain ⟨g1, g2, g3⟩ := hg
    rw [List.append_nil] at g2
    have hpos := Pc.pos g1
    have hlen : (flat (p :: l)).length = p.bytes.length + (flat l).length := List.length_append
    by_cases hp : p = .com
    · subst hp
      have h1 : At s (i + 4) (flat l) := h0.app
      have e : com s (i + 4) = i + 4 := com_none fun hh => g2 ⟨by rw [← h1.hd]; exact hh.1, by rw [← hd_tail h1 (by rw [hh.1]; decide)]; exact hh.2⟩
      have ih := scan_list l (i + 4) f h1 g3 (by omega)
      rw [e] at ih
      rw [com_some h0 g2, ih]
      rfl
    · obtain ⟨t, ht, hsc, hcm⟩ := piece_scan g1 g2 hp h0
      obtain ⟨f, rfl⟩ : ∃ g, f = g + 1 := ⟨f - 1, by omega⟩
      have hsz := h0.size
      rw [hcm]
      unfold tokF
      rw [if_neg (by rw [List.length_append] at hsz; omega), hsc]
      show t :: tokF s f (com s (i + p.bytes.length)) = _
      rw [scan_list l _ f h0.app g3 (by omega)]
      unfold ptoks
      rw [List.filterMap_cons, ht]
end Go.Proofs.YtlliliddljkbfaaGreat.Sp
namespace Go.Proofs.YtlliliddljkbfaaGreat.Sp
set_option maxHeartbeats 64000000
set_option maxRecDepth 100000
def numT (t : Tok) : Prop := t.kind = 5 ∨ t.kind = 6 ∨ t.kind = 7 → NumW t.word
def headU (r : List Tok) : Prop := ∃ t r', (t.kind = 2 ∨ t.kind = 3) ∧ (r = t :: r' ∨ ∃ b, b.kind = 1 ∧ r = b :: t :: r')
def uT : List Tok → Prop
  | [] => True
  | t :: r => (numT t ∧ (t.kind = 11 → small t.word = url → headU r)) ∧ uT r
theorem uT_drop : ∀ (l : List Tok) (k : Nat), uT l → uT (l.drop k)
  | [], k, _ => by simp [uT]
  | t :: r, 0, h => h
  | t :: r, k + 1, h => uT_drop r k h.2
theorem numeric_num {s : ByteArray} {i : Nat} (hi : i ≤ s.size) (h : numB s i = true) : numT (numeric s i).1 ∧ (numeric s i).1.kind ≠ 11 := by
  have hw := num_word hi h
  unfold numeric
  simp only
  split
  · exact ⟨fun _ => hw, by simp [Tok.w]⟩
  · split
    · exact ⟨fun _ => hw, by simp⟩
    · exact ⟨fun _ => hw, by simp [Tok.w]⟩
theorem token_num {s : ByteArray} {i : Nat} (hi : i ≤ s.size) : numT (token s i).1 ∧ ((token s i).1.kind = 11 → token s i = named s i) := by
  unfold token
  split
  · exact ⟨fun h => by simp [Tok.k] at h, fun h => by simp [Tok.k] at h⟩
  · split
    · have := (txtF_kind s (pk s i) s.size (i + 1) ByteArray.empty).1
      unfold txt
      exact ⟨fun h => by omega, fun h => by omega⟩
    · split
      · exact ⟨fun h => by simp [Tok.w] at h, fun h => by simp [Tok.w] at h⟩
      · split
        · rename_i h
          have := numeric_num hi h
          exact ⟨this.1, fun h => absurd h this.2⟩
        · split
          · exact ⟨fun h => by simp [Tok.k] at h, fun h => by simp [Tok.k] at h⟩
          · split
            · exact ⟨fun h => by simp [Tok.k] at h, fun h => by simp [Tok.k] at h⟩
            · split
              · exact ⟨fun h => by simp [Tok.w] at h, fun h => by simp [Tok.w] at h⟩
              · split
                · refine ⟨fun h => ?_, fun _ => rfl⟩
                  exfalso
                  unfold named at h
                  simp only at h
                  split at h
                  · split at h
                    · unfold link at h
                      have := (linkF_kind s s.size (blk s ((name s i).2 + 1)) ByteArray.empty).1
                      omega
                    · simp [Tok.w] at h
                  · simp [Tok.w] at h
                · exact ⟨fun h => by simp [Tok.w] at h, fun h => by simp [Tok.w] at h⟩
theorem named_url {s : ByteArray} {i : Nat} (h : (named s i).1.kind = 11) (hu : small (named s i).1.word = url) : (named s i).2 = (name s i).2 + 1 ∧ quoteI (pk s (blk s ((name s i).2 + 1))) = true := by
  unfold named at h hu ⊢
  simp only at h hu ⊢
  by_cases h40 : pk s (name s i).2 = 40
  · rw [if_pos h40] at h hu ⊢
    by_cases hq : small (name s i).1 = url ∧ quoteI (pk s (blk s ((name s i).2 + 1))) = false
    · rw [if_pos hq] at h
      unfold link at h
      have := (linkF_kind s s.size (blk s ((name s i).2 + 1)) ByteArray.empty).1
      omega
    · rw [if_neg hq] at hu ⊢
      refine ⟨rfl, ?_⟩
      by_cases hh : quoteI (pk s (blk s ((name s i).2 + 1))) = true
      · exact hh
      · exact absurd ⟨hu, by simpa using hh⟩ hq
  · rw [if_neg h40] at h
    simp [Tok.w] at h
theorem quote_tok {s : ByteArray} {i : Nat} (h : quoteI (pk s i) = true) : ((token s i).1.kind = 2 ∨ (token s i).1.kind = 3) ∧ com s i = i := by
  have hb : blankI (pk s i) = false := by
    unfold quoteI at h; unfold blankI; simp at h ⊢; omega
  refine ⟨?_, com_none fun hh => by rw [hh.1] at h; exact absurd h (by decide)⟩
  unfold token
  rw [hb, if_neg (by simp), if_pos h]
  exact (txtF_kind s (pk s i) s.size (i + 1) ByteArray.empty).1
theorem tokF_head {s : ByteArray} {j f : Nat} (hq : quoteI (pk s (blk s j)) = true) (hf : s.size ≤ j + f) : headU (tokF s f (com s j)) := by
  have hge := blk_ge s j
  have hlt : blk s j < s.size := pk_lt (quote_nn hq)
  have hqt := quote_tok hq
  by_cases hb : blankI (pk s j) = true
  · have hgt := blk_gt hb
    have hc : com s j = j := com_none fun hh => by rw [hh.1] at hb; exact absurd hb (by decide)
    obtain ⟨f, rfl⟩ : ∃ g, f = g + 1 := ⟨f - 1, by omega⟩
    obtain ⟨f, rfl⟩ : ∃ g, f = g + 1 := ⟨f - 1, by omega⟩
    have ht : token s j = (Tok.k 1, blk s j) := by unfold token; rw [if_pos hb]
    rw [hc]
    unfold tokF
    rw [if_neg (by omega), ht]
    simp only
    rw [hqt.2]
    unfold tokF
    rw [if_neg (by omega)]
    exact ⟨_, _, hqt.1, .inr ⟨Tok.k 1, rfl, rfl⟩⟩
  · have e := blk_none (s := s) (i := j) (by simpa using hb)
    rw [e] at hqt hlt
    obtain ⟨f, rfl⟩ : ∃ g, f = g + 1 := ⟨f - 1, by omega⟩
    rw [hqt.2]
    unfold tokF
    rw [if_neg (by omega)]
    exact ⟨_, _, hqt.1, .inl rfl⟩
theorem tokF_u {s : ByteArray} : ∀ f i, s.size ≤ i + f → uT (tokF s f i)
  | 0, i, _ => by simp [tokF, uT]
  | f + 1, i, h => by
    unfold tokF
    by_cases hi : s.size ≤ i
    · rw [if_pos hi]; simp [uT]
    · rw [if_neg hi]
      have hgt := token_gt (s := s) (i := i) (by omega)
      have hle := token_le (s := s) (i := i) (by omega)
      have hcg := com_ge hle
      have hn := token_num (s := s) (i := i) (by omega)
      refine ⟨⟨hn.1, fun hk hu => ?_⟩, tokF_u f _ (by omega)⟩
      have e := hn.2 hk
      rw [e] at hk hu
      obtain ⟨h2, h3⟩ := named_url hk hu
      rw [e, h2] at hgt ⊢
      exact tokF_head h3 (by omega)
theorem toks_u (s : ByteArray) : uT (toks s) := tokF_u _ _ (by omega)
def headN (k : List Nd) : Prop := ∃ n r', (n.t.kind = 2 ∨ n.t.kind = 3) ∧ (k = n :: r' ∨ ∃ b, b.t.kind = 1 ∧ k = b :: n :: r')
mutual
def uN : Nd → Prop
  | .mk t k => (numT t ∧ (t.kind = 11 → small t.word = url → headN k)) ∧ uL k
def uL : List Nd → Prop
  | [] => True
  | n :: r => uN n ∧ uL r
end
theorem uN_iff (n : Nd) : uN n ↔ (numT n.t ∧ (n.t.kind = 11 → small n.t.word = url → headN n.kids)) ∧ uL n.kids := by cases n; simp [uN]
theorem uL_mem : ∀ (l : List Nd), uL l ↔ ∀ n ∈ l, uN n
  | [] => by simp [uL]
  | m :: r => by simp [uL, uL_mem r]
theorem uL_sub {a b : List Nd} (h : uL b) (hs : ∀ n ∈ a, n ∈ b) : uL a := (uL_mem a).2 fun n hn => (uL_mem b).1 h n (hs n hn)
theorem not_sign {t : Tok} (h : t.kind ≠ 15) (e : ByteArray) : ¬ (e ≠ nob ∧ signT t e = true) := fun hh => by
  have := hh.2; unfold signT at this; simp [h] at this
theorem no_closing {t : Tok} (h : t.kind ≠ 15) (h' : t.kind ≠ 11) : closing t = nob := by unfold closing; rw [if_neg h', if_neg h]
theorem inside_none {t : Tok} (h : closing t = nob) (r : List Tok) : inside t r = ([], r) := by unfold inside; rw [if_pos h]
theorem kids_head {e : ByteArray} {ts : List Tok} (h : headU ts) : headN (kids e ts).1 := by
  obtain ⟨t, r', ht, h | ⟨b, hb, h⟩⟩ := h
  · rw [h, kids_cons (not_sign (by omega) e), inside_none (no_closing (by omega) (by omega))]
    exact ⟨.mk t [], _, ht, .inl rfl⟩
  · rw [h, kids_cons (not_sign (by omega) e), inside_none (no_closing (by omega) (by omega)), kids_cons (not_sign (by omega) e), inside_none (no_closing (by omega) (by omega))]
    exact ⟨.mk t [], _, ht, .inr ⟨.mk b [], hb, rfl⟩⟩
theorem kids_u (n : Nat) : ∀ (e : ByteArray) (ts : List Tok), ts.length ≤ n → uT ts → uL (kids e ts).1 := by
  induction n with
  | zero =>
    intro e ts h _
    obtain rfl : ts = [] := List.eq_nil_of_length_eq_zero (by omega)
    simp [kids_nil, uL]
  | succ n ih =>
    intro e ts h hok
    cases ts with
    | nil => simp [kids_nil, uL]
    | cons t r =>
      simp only [List.length_cons] at h
      by_cases hc : e ≠ nob ∧ signT t e = true
      · simp [kids_end hc, uL]
      · rw [kids_cons hc]
        have hl := inside_len t r
        obtain ⟨k, hk, hk2⟩ := inside_drop t r
        have h1 : uL (inside t r).1 := by
          unfold inside
          split
          · simp [uL]
          · exact ih _ r (by omega) hok.2
        have h2 : uL (kids e (inside t r).2).1 := ih e _ (by omega) (by rw [hk2]; exact uT_drop _ _ hok.2)
        refine ⟨⟨⟨hok.1.1, fun hk hu => ?_⟩, h1⟩, h2⟩
        have hh := hok.1.2 hk hu
        unfold inside
        rw [if_neg (by unfold closing; rw [if_pos hk]; decide)]
        exact kids_head hh
theorem sheet_u (s : ByteArray) : uL (sheetN s) := kids_u _ _ _ (Nat.le_refl _) (toks_u _)
end Go.Proofs.YtlliliddljkbfaaGreat.Sp
