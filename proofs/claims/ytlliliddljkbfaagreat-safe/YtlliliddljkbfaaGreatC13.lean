import Derived.Test.YtlliliddljkbfaaGreatC1
import Derived.Test.YtlliliddljkbfaaGreatC4
import Derived.Test.YtlliliddljkbfaaGreatC9
import Derived.Test.YtlliliddljkbfaaGreatC12
namespace Go.Proofs.YtlliliddljkbfaaGreat.Sp
set_option maxHeartbeats 64000000
set_option maxRecDepth 100000
theorem nameF_sz (s : ByteArray) : ∀ f i acc, (nameF s f i acc).1.size ≤ acc.size + f ∧ acc.size ≤ (nameF s f i acc).1.size
  | 0, _, acc => by simp [nameF]
  | f + 1, i, acc => by
    unfold nameF
    by_cases h1 : nameI (pk s i) = true
    · rw [if_pos h1]
      have := nameF_sz s f (i + 1) (acc ++ one s i)
      rw [ByteArray.size_append, size_one (pk_lt (name_nn h1))] at this
      omega
    · rw [if_neg h1]
      by_cases h2 : escB s i = true
      · rw [if_pos h2]
        have := nameF_sz s f (esc s i).2 (acc ++ (esc s i).1)
        rw [ByteArray.size_append, size_esc] at this
        omega
      · rw [if_neg h2]; simp
theorem name_sz (s : ByteArray) (i : Nat) : (name s i).1.size ≤ s.size := by
  have := (nameF_sz s s.size i ByteArray.empty).1
  simp at this
  exact this
theorem name_pos {s : ByteArray} {i : Nat} (h : goesB s i = true) (hs : 0 < s.size) : 0 < (name s i).1.size := by
  unfold name
  obtain ⟨f, hf⟩ : ∃ f, s.size = f + 1 := ⟨s.size - 1, by omega⟩
  rw [hf]
  unfold nameF
  unfold goesB at h
  by_cases h1 : nameI (pk s i) = true
  · rw [if_pos h1]
    have := (nameF_sz s f (i + 1) (ByteArray.empty ++ one s i)).2
    rw [ByteArray.size_append, size_one (pk_lt (name_nn h1))] at this
    omega
  · rw [if_neg h1]
    have h2 : escB s i = true := by simpa [h1] using h
    rw [if_pos h2]
    have := (nameF_sz s f (esc s i).2 (ByteArray.empty ++ (esc s i).1)).2
    rw [ByteArray.size_append, size_esc] at this
    omega
theorem txtF_size (s : ByteArray) (q : Int) : ∀ f i acc, (txtF s q f i acc).1.word.size ≤ acc.size + f
  | 0, _, acc => by simp [txtF, Tok.w]
  | f + 1, i, acc => by
    unfold txtF
    by_cases h0 : s.size ≤ i
    · rw [if_pos h0]; simp [Tok.w]
    rw [if_neg h0]
    by_cases h1 : pk s i = q
    · rw [if_pos h1]; simp [Tok.w]
    rw [if_neg h1]
    by_cases h2 : pk s i = 10
    · rw [if_pos h2]; simp [Tok.k]
    rw [if_neg h2]
    by_cases h3 : pk s i = 92
    · rw [if_pos h3]
      by_cases h4 : s.size ≤ i + 1
      · rw [if_pos h4]; have := txtF_size s q f (i + 1) acc; omega
      rw [if_neg h4]
      by_cases h5 : pk s (i + 1) = 10
      · rw [if_pos h5]; have := txtF_size s q f (i + 2) acc; omega
      rw [if_neg h5]
      have := txtF_size s q f (esc s i).2 (acc ++ (esc s i).1)
      rw [ByteArray.size_append, size_esc] at this; omega
    rw [if_neg h3]
    have := txtF_size s q f (i + 1) (acc ++ one s i)
    rw [ByteArray.size_append, size_one (by omega)] at this; omega
theorem linkF_size (s : ByteArray) : ∀ f i acc, (linkF s f i acc).1.word.size ≤ acc.size + f
  | 0, _, acc => by simp [linkF, Tok.w]
  | f + 1, i, acc => by
    unfold linkF
    by_cases h0 : s.size ≤ i
    · rw [if_pos h0]; simp [Tok.w]
    rw [if_neg h0]
    by_cases h1 : pk s i = 41
    · rw [if_pos h1]; simp [Tok.w]
    rw [if_neg h1]
    by_cases h2 : blankI (pk s i) = true
    · rw [if_pos h2]
      by_cases h3 : s.size ≤ blk s i
      · rw [if_pos h3]; simp [Tok.w]
      rw [if_neg h3]
      by_cases h4 : pk s (blk s i) = 41
      · rw [if_pos h4]; simp [Tok.w]
      rw [if_neg h4]; simp [Tok.k]
    rw [if_neg h2]
    by_cases h3 : escB s i = true
    · rw [if_pos h3]
      have := linkF_size s f (esc s i).2 (acc ++ (esc s i).1)
      rw [ByteArray.size_append, size_esc] at this; omega
    rw [if_neg h3]
    by_cases h4 : spoilI (pk s i) = true
    · rw [if_pos h4]; simp [Tok.k]
    rw [if_neg h4]
    have := linkF_size s f (i + 1) (acc ++ one s i)
    rw [ByteArray.size_append, size_one (by omega)] at this; omega
theorem txtF_kind (s : ByteArray) (q : Int) : ∀ f i acc, ((txtF s q f i acc).1.kind = 2 ∨ (txtF s q f i acc).1.kind = 3) ∧ (txtF s q f i acc).1.unit = ByteArray.empty
  | 0, _, acc => by simp [txtF, Tok.w]
  | f + 1, i, acc => by
    unfold txtF
    split
    · simp [Tok.w]
    split
    · simp [Tok.w]
    split
    · simp [Tok.k]
    split
    · split
      · exact txtF_kind s q f _ _
      split
      · exact txtF_kind s q f _ _
      · exact txtF_kind s q f _ _
    · exact txtF_kind s q f _ _
theorem linkF_kind (s : ByteArray) : ∀ f i acc, ((linkF s f i acc).1.kind = 12 ∨ (linkF s f i acc).1.kind = 13) ∧ (linkF s f i acc).1.unit = ByteArray.empty
  | 0, _, acc => by simp [linkF, Tok.w]
  | f + 1, i, acc => by
    unfold linkF
    split
    · simp [Tok.w]
    split
    · simp [Tok.w]
    split
    · split
      · simp [Tok.w]
      split
      · simp [Tok.w]
      · simp [Tok.k]
    split
    · exact linkF_kind s f _ _
    split
    · simp [Tok.k]
    · exact linkF_kind s f _ _
theorem TokOK.k {n : Int} (h5 : n ≠ 5) (h7 : n ≠ 7) (h15 : n ≠ 15) (hn : ¬ (n = 4 ∨ n = 10 ∨ n = 11 ∨ n = 14)) : TokOK (Tok.k n) := ⟨by simp [Tok.k], by simp [Tok.k], fun h => absurd h h5, fun h => absurd h h7, fun h => absurd h h15, fun h => absurd h hn⟩
theorem TokOK.w {n : Int} {x : ByteArray} (hx : x.size ≤ 1000) (h5 : n ≠ 5) (h7 : n ≠ 7) (h15 : n ≠ 15) (hn : (n = 4 ∨ n = 10 ∨ n = 11 ∨ n = 14) → 0 < x.size) : TokOK (Tok.w n x) := ⟨by show x.size ≤ _; omega, by simp [Tok.w], fun h => absurd h h5, fun h => absurd h h7, fun h => absurd h h15, hn⟩
theorem numeric_ok {s : ByteArray} {i : Nat} (hi : i < s.size) (hs : s.size ≤ 1000) (h : numB s i = true) : TokOK (numeric s i).1 := by
  have h1 := numE_gt h
  have h2 := numE_le (s := s) (i := i) (by omega)
  have hz : (s.extract i (numE s i)).size = numE s i - i := by simp; omega
  unfold numeric
  simp only
  by_cases h37 : pk s (numE s i) = 37
  · rw [if_pos h37]; exact TokOK.w (by rw [hz]; omega) (by omega) (by omega) (by omega) (by omega)
  rw [if_neg h37]
  by_cases hb : begB s (numE s i) = true
  · rw [if_pos hb]
    have hn := name_sz s (numE s i)
    exact ⟨by rw [hz]; omega, by show (name s (numE s i)).1.size ≤ _; omega, fun h => by simp at h, fun _ => name_pos (beg_goes hb) (by omega), fun h => by simp at h, fun h => by simp at h⟩
  · rw [if_neg hb]
    exact ⟨by show (s.extract i (numE s i)).size ≤ _; rw [hz]; omega, by simp [Tok.w], fun _ => by show 0 < (s.extract i (numE s i)).size; rw [hz]; omega, fun h => by simp [Tok.w] at h, fun h => by simp [Tok.w] at h, fun h => by simp [Tok.w] at h⟩
theorem named_ok {s : ByteArray} {i : Nat} (hs : s.size ≤ 1000) (hb : begB s i = true) (hi : i < s.size) : TokOK (named s i).1 := by
  have hn := name_sz s i
  have hp := name_pos (beg_goes hb) (by omega)
  unfold named
  simp only
  split
  · split
    · have h1 := linkF_size s s.size (blk s ((name s i).2 + 1)) ByteArray.empty
      have h2 := linkF_kind s s.size (blk s ((name s i).2 + 1)) ByteArray.empty
      simp at h1
      unfold link
      refine ⟨by omega, by rw [h2.2]; simp, fun h => ?_, fun h => ?_, fun h => ?_, fun h => ?_⟩ <;> (rcases h2.1 with e | e <;> rw [e] at h <;> simp at h)
    · exact TokOK.w (by omega) (by omega) (by omega) (by omega) (fun _ => hp)
  · exact TokOK.w (by omega) (by omega) (by omega) (by omega) (fun _ => hp)
theorem token_ok {s : ByteArray} {i : Nat} (hi : i < s.size) (hs : s.size ≤ 1000) : TokOK (token s i).1 := by
  unfold token
  split
  · exact TokOK.k (by omega) (by omega) (by omega) (by omega)
  split
  · have h1 := txtF_size s (pk s i) s.size (i + 1) ByteArray.empty
    have h2 := txtF_kind s (pk s i) s.size (i + 1) ByteArray.empty
    simp at h1
    unfold txt
    refine ⟨by omega, by rw [h2.2]; simp, fun h => ?_, fun h => ?_, fun h => ?_, fun h => ?_⟩ <;> (rcases h2.1 with e | e <;> rw [e] at h <;> simp at h)
  split
  · rename_i h35
    have := name_sz s (i + 1); exact TokOK.w (by omega) (by omega) (by omega) (by omega) (fun _ => name_pos h35.2 (by omega))
  split
  · exact numeric_ok hi hs ‹_›
  split
  · exact TokOK.k (by omega) (by omega) (by omega) (by omega)
  split
  · exact TokOK.k (by omega) (by omega) (by omega) (by omega)
  split
  · rename_i h64
    have := name_sz s (i + 1); exact TokOK.w (by omega) (by omega) (by omega) (by omega) (fun _ => name_pos (beg_goes h64.2) (by omega))
  split
  · exact named_ok hs ‹_› hi
  · have := size_one hi
    exact ⟨by show (one s i).size ≤ _; omega, by simp [Tok.w], fun h => by simp [Tok.w] at h, fun h => by simp [Tok.w] at h, fun _ => this, fun h => by simp [Tok.w] at h⟩
theorem tokF_ok {s : ByteArray} (hs : s.size ≤ 1000) : ∀ f i, i ≤ s.size → ∀ t ∈ tokF s f i, TokOK t
  | 0, _, _, t, h => by simp [tokF] at h
  | f + 1, i, hi, t, h => by
    unfold tokF at h
    by_cases h0 : s.size ≤ i
    · rw [if_pos h0] at h; simp at h
    · rw [if_neg h0] at h
      rcases List.mem_cons.1 h with e | e
      · rw [e]; exact token_ok (by omega) hs
      · exact tokF_ok hs f _ (com_le (token_le (by omega))) t e
theorem toks_ok {s : ByteArray} (hs : s.size ≤ 1000) : ∀ t ∈ toks s, TokOK t := tokF_ok hs _ _ (com_le (Nat.zero_le _))
end Go.Proofs.YtlliliddljkbfaaGreat.Sp
namespace Go.Proofs.YtlliliddljkbfaaGreat.Sp
set_option maxHeartbeats 64000000
set_option maxRecDepth 100000
mutual
def okN : Nd → Prop
  | .mk t k => TokOK t ∧ okNs k
def okNs : List Nd → Prop
  | [] => True
  | n :: r => okN n ∧ okNs r
end
theorem okN_iff (n : Nd) : okN n ↔ TokOK n.t ∧ okNs n.kids := by cases n; simp [okN]
theorem okNs_mem : ∀ (l : List Nd), okNs l ↔ ∀ n ∈ l, okN n
  | [] => by simp [okNs]
  | m :: r => by simp [okNs, okNs_mem r]
structure SimN (k : Nat) (v : ByteArray) (p : Nat) : Prop where
  kind : k = 116 ∨ k = 35 ∨ k = 46 ∨ k = 91 ∨ k = 58
  val : v.size ≤ 4000000
  place : p ≤ 1001
mutual
def okS : Simple → Prop
  | .mk k _ _ v l p => SimN k v p ∧ okL l
def okA : List Simple → Prop
  | [] => True
  | s :: r => okS s ∧ okA r
def okT : Nat × List Simple → Prop
  | (b, all) => b < 256 ∧ okA all
def okC : List (Nat × List Simple) → Prop
  | [] => True
  | s :: r => okT s ∧ okC r
def okL : List (List (Nat × List Simple)) → Prop
  | [] => True
  | c :: r => (c ≠ [] ∧ okC c) ∧ okL r
end
theorem dropB_ok {l : List Nd} (h : okNs l) : okNs (dropB l) := by
  induction l with
  | nil => simp [dropB, okNs]
  | cons n r ih =>
    unfold dropB
    split
    · exact ih h.2
    · exact h
theorem bare_ok {l : List Nd} (h : okNs l) : okNs (bare l) := by
  rw [okNs_mem]
  intro n hn
  unfold bare trimE at hn
  rw [List.mem_reverse] at hn
  have h1 : okNs (dropB (dropB l).reverse) := dropB_ok (by rw [okNs_mem]; intro m hm; exact (okNs_mem _).1 (dropB_ok h) m (List.mem_reverse.1 hm))
  exact (okNs_mem _).1 h1 n hn
theorem partF_ok : ∀ (l : List Nd) (out : List (List Nd)) (cur : List Nd), (∀ p ∈ out, okNs p) → okNs cur → okNs l → ∀ p ∈ partF out cur l, okNs p
  | [], out, cur, h1, h2, _, p, hp => by
    unfold partF at hp
    rcases List.mem_append.1 hp with h | h
    · exact h1 p h
    · simp at h; subst h; exact h2
  | m :: r, out, cur, h1, h2, h3, p, hp => by
    unfold partF at hp
    split at hp
    · refine partF_ok r (out ++ [cur]) [] (fun q hq => ?_) (by simp [okNs]) h3.2 p hp
      rcases List.mem_append.1 hq with h | h
      · exact h1 q h
      · simp at h; subst h; exact h2
    · refine partF_ok r out (cur ++ [m]) h1 ?_ h3.2 p hp
      rw [okNs_mem]
      intro k hk
      rcases List.mem_append.1 hk with h | h
      · exact (okNs_mem _).1 h2 k h
      · simp at h; subst h; exact h3.1
theorem numF_le : ∀ (l : List UInt8) (v n : Nat), numF v l = some n → n ≤ 999
  | [], v, n, h => by
    unfold numF at h
    split at h
    · cases h; assumption
    · cases h
  | c :: r, v, n, h => by
    unfold numF at h
    split at h
    · exact numF_le r _ n h
    · cases h
theorem placeOf_le {t : Tok} {p : Nat} (h : placeOf t = some p) : p ≤ 1001 := by
  unfold placeOf at h
  split at h
  · split at h
    · cases h; omega
    split at h
    · cases h; omega
    · cases h
  · split at h
    · cases hn : numF 0 t.word.data.toList with
      | none => rw [hn] at h; cases h
      | some n => rw [hn] at h; simp at h; have := numF_le _ _ _ hn; omega
    · cases h
theorem combi_ok {l r : List Nd} {c : Nat} (hn : okNs l) (h : combi l = some (c, r)) : c < 256 ∧ okNs r := by
  unfold combi at h
  have hd := dropB_ok hn
  split at h
  · split at h
    · cases h
    · cases h; exact ⟨by omega, by simp [okNs]⟩
  · rename_i n r' hdr
    rw [hdr] at hd
    split at h
    · cases h; exact ⟨by omega, dropB_ok hd.2⟩
    split at h
    · cases h; exact ⟨by omega, dropB_ok hd.2⟩
    split at h
    · cases h; exact ⟨by omega, dropB_ok hd.2⟩
    split at h
    · cases h; exact ⟨by omega, hd⟩
    · cases h
section
variable {rec : List Nd → Option Sels} (hrec : ∀ l ss, okNs l → rec l = some ss → okL ss)
include hrec
end
end Go.Proofs.YtlliliddljkbfaaGreat.Sp
namespace Go.Proofs.YtlliliddljkbfaaGreat.Sp
set_option maxHeartbeats 64000000
set_option maxRecDepth 100000
def HowOK (h : ByteArray) : Prop := h = nob ∨ h = b1 61 ∨ h = ⟨#[126, 61]⟩ ∨ h = ⟨#[94, 61]⟩ ∨ h = ⟨#[36, 61]⟩ ∨ h = ⟨#[42, 61]⟩
def StOK (nm : ByteArray) : Prop := nm = nRoot ∨ nm = nFirst ∨ nm = nLast ∨ nm = nEmpty ∨ nm = nNot ∨ nm = nIs ∨ nm = nNth
def CbOK (b : Nat) : Prop := b = 32 ∨ b = 62 ∨ b = 43 ∨ b = 126
structure PrN (k : Nat) (nm how v : ByteArray) (p : Nat) : Prop where
  kind : k = 116 ∨ (k = 35 ∧ nm ≠ nob) ∨ k = 46 ∨ (k = 91 ∧ HowOK how) ∨ (k = 58 ∧ StOK nm)
  val : v.size ≤ 4000000
  place : p ≤ 1001
  nmz : nm.size ≤ 4000000
  hwz : how.size ≤ 10
theorem small_sz (s : ByteArray) : (small s).size = s.size := by
  show (s.data.toList.map smallB).toArray.size = s.data.size
  rw [List.size_toArray, List.length_map, Array.length_toList]
mutual
def qkS : Simple → Prop
  | .mk k nm how v l p => PrN k nm how v p ∧ qkL l
def qkA : List Simple → Prop
  | [] => True
  | s :: r => qkS s ∧ qkA r
def qkC : List (Nat × List Simple) → Prop
  | [] => False
  | (b, all) :: r => b = 0 ∧ qkA all ∧ qkR r
def qkR : List (Nat × List Simple) → Prop
  | [] => True
  | (b, all) :: r => CbOK b ∧ qkA all ∧ qkR r
def qkL : List (List (Nat × List Simple)) → Prop
  | [] => True
  | c :: r => qkC c ∧ qkL r
end
theorem qkA_append : ∀ (a b : List Simple), qkA (a ++ b) ↔ qkA a ∧ qkA b
  | [], b => by simp [qkA]
  | s :: r, b => by simp [qkA, qkA_append r b, and_assoc]
theorem qkS_plain {k : Nat} {nm h v : ByteArray} {p : Nat} (hs : PrN k nm h v p) : qkS (.mk k nm h v [] p) := by simp [qkS, qkL, hs]
theorem attrOf_qk {l : List Nd} {s : Simple} (hl : okNs l) (h : attrOf l = some s) : qkS s := by
  unfold attrOf at h
  split at h
  · cases h
  · rename_i n r
    simp only at h
    split at h
    · cases h
    · split at h
      · cases h; exact qkS_plain ⟨by simp [HowOK], Nat.zero_le _, by omega, ((okN_iff n).1 hl.1).1.word, Nat.zero_le _⟩
      · rename_i m r1 hb
        split at h
        · cases h
        · have hr1 : okNs (m :: r1) := by rw [← hb]; exact bare_ok hl.2
          split at h
          · cases h
          · rename_i q r2 hq
            have hq2 : okNs (q :: r2) := by
              rw [← hq]
              split
              · exact hr1.2
              · exact hr1
            split at h
            · rename_i v hv
              have hv2 : okNs [v] := by rw [← hv]; exact bare_ok hq2.2
              split at h
              · cases h
                refine qkS_plain ⟨.inr (.inr (.inr (.inl ⟨rfl, ?_⟩))), ((okN_iff v).1 hv2.1).1.word, by omega, ((okN_iff n).1 hl.1).1.word, ?_⟩
                · split
                  · rename_i hm
                    rcases hm with e | e | e | e <;> rw [e] <;> unfold HowOK <;> decide
                  · unfold HowOK; decide
                · split
                  · rename_i hm
                    rcases hm with e | e | e | e <;> rw [e] <;> decide
                  · decide
              · cases h
            · cases h
theorem combi_qk {l r : List Nd} {c : Nat} (h : combi l = some (c, r)) : CbOK c := by
  unfold combi at h
  split at h
  · split at h
    · cases h
    · cases h; simp [CbOK]
  · split at h
    · cases h; simp [CbOK]
    split at h
    · cases h; simp [CbOK]
    split at h
    · cases h; simp [CbOK]
    split at h
    · cases h; simp [CbOK]
    · cases h
theorem hash_ne {n : Nd} (h : okN n) (hk : n.t.kind = 4) : n.t.word ≠ nob := by
  have := ((okN_iff n).1 h).1.named (.inl hk)
  intro e
  rw [e] at this
  exact absurd this (by decide)
section
variable {rec : List Nd → Option Sels} (hrec : ∀ l ss, okNs l → rec l = some ss → qkL ss)
include hrec
theorem pseudoW_qk {n : Nd} {s : Simple} (hn : okN n) (h : pseudoW rec n = some s) : qkS s := by
  unfold pseudoW at h
  simp only at h
  split at h
  · split at h
    · rename_i hw
      cases h; exact qkS_plain ⟨.inr (.inr (.inr (.inr ⟨rfl, by rcases hw with e | e | e | e <;> simp [StOK, e]⟩))), Nat.zero_le _, by omega, by rw [small_sz]; exact ((okN_iff n).1 hn).1.word, Nat.zero_le _⟩
    · cases h
  split at h
  · cases h
  split at h
  · rename_i hw
    cases hr : rec n.kids with
    | none => rw [hr] at h; cases h
    | some ss =>
      rw [hr] at h
      simp at h
      subst h
      have := hrec _ _ ((okN_iff n).1 hn).2 hr
      simp only [qkS]
      exact ⟨⟨.inr (.inr (.inr (.inr ⟨rfl, by rcases hw with e | e <;> simp [StOK, e]⟩))), Nat.zero_le _, by omega, by rw [small_sz]; exact ((okN_iff n).1 hn).1.word, Nat.zero_le _⟩, this⟩
  split at h
  · rename_i hw
    split at h
    · rename_i v hv
      cases hp : placeOf v.t with
      | none => rw [hp] at h; cases h
      | some q => rw [hp] at h; simp at h; subst h; exact qkS_plain ⟨.inr (.inr (.inr (.inr ⟨rfl, by simp [StOK, hw]⟩))), Nat.zero_le _, placeOf_le hp, by rw [small_sz]; exact ((okN_iff n).1 hn).1.word, Nat.zero_le _⟩
    · cases h
  · cases h
theorem partsW_qk (n : Nat) : ∀ (acc : List Simple) (l : List Nd) (all : List Simple) (r : List Nd), l.length ≤ n → qkA acc → okNs l → partsW rec acc l = some (all, r) → qkA all ∧ okNs r := by
  induction n with
  | zero =>
    intro acc l all r hl ha hn h
    obtain rfl : l = [] := List.eq_nil_of_length_eq_zero (by omega)
    simp [partsW] at h
    obtain ⟨rfl, rfl⟩ := h
    exact ⟨ha, hn⟩
  | succ n ih =>
    intro acc l all r hl ha hn h
    have one : ∀ s, qkS s → qkA (acc ++ [s]) := fun s hs => by rw [qkA_append]; exact ⟨ha, by simp [qkA, hs]⟩
    match l, hl, hn, h with
    | [], _, hn, h =>
      simp [partsW] at h
      obtain ⟨rfl, rfl⟩ := h
      exact ⟨ha, hn⟩
    | [m], _, hn, h =>
      have hw := ((okN_iff m).1 hn.1)
      unfold partsW at h
      split at h
      · rename_i hk
        cases h; exact ⟨one _ (qkS_plain ⟨.inr (.inl ⟨rfl, hash_ne hn.1 hk⟩), Nat.zero_le _, by omega, hw.1.word, Nat.zero_le _⟩), by simp [okNs]⟩
      split at h
      · cases h
      split at h
      · split at h
        · cases h
        · rename_i s hs
          cases h; exact ⟨one _ (attrOf_qk (bare_ok hw.2) hs), by simp [okNs]⟩
      split at h
      · cases h
      · cases h; exact ⟨ha, hn⟩
    | m :: q :: r', hl, hn, h =>
      simp only [List.length_cons] at hl
      have hw := ((okN_iff m).1 hn.1)
      unfold partsW at h
      split at h
      · rename_i hk
        exact ih _ _ _ _ (by simp; omega) (one _ (qkS_plain ⟨.inr (.inl ⟨rfl, hash_ne hn.1 hk⟩), Nat.zero_le _, by omega, hw.1.word, Nat.zero_le _⟩)) hn.2 h
      split at h
      · split at h
        · exact ih _ _ _ _ (by omega) (one _ (qkS_plain ⟨by simp, Nat.zero_le _, by omega, ((okN_iff q).1 hn.2.1).1.word, Nat.zero_le _⟩)) hn.2.2 h
        · cases h
      split at h
      · split at h
        · cases h
        · rename_i s hs
          exact ih _ _ _ _ (by simp; omega) (one _ (attrOf_qk (bare_ok hw.2) hs)) hn.2 h
      split at h
      · split at h
        · cases h
        · rename_i s hs
          exact ih _ _ _ _ (by omega) (one _ (pseudoW_qk hrec hn.2.1 hs)) hn.2.2 h
      · cases h; exact ⟨ha, hn⟩
theorem compoundW_qk {l : List Nd} {all : List Simple} {r : List Nd} (hn : okNs l) (h : compoundW rec l = some (all, r)) : qkA all ∧ okNs r := by
  unfold compoundW at h
  have ht : qkA (tagOf l).1 ∧ okNs (tagOf l).2 := by
    unfold tagOf
    split
    · exact ⟨by simp [qkA], by simp [okNs]⟩
    · split
      · exact ⟨by simp only [qkA, and_true]; exact qkS_plain ⟨by simp, Nat.zero_le _, by omega, by rw [small_sz]; exact ((okN_iff _).1 hn.1).1.word, Nat.zero_le _⟩, hn.2⟩
      split
      · exact ⟨by simp only [qkA, and_true]; exact qkS_plain ⟨by simp, Nat.zero_le _, by omega, Nat.zero_le _, Nat.zero_le _⟩, hn.2⟩
      · exact ⟨by simp [qkA], hn⟩
  exact partsW_qk hrec _ _ _ _ _ (Nat.le_refl _) ht.1 ht.2 h
theorem complexF_qk : ∀ (f b : Nat) (l : List Nd) (ss : List Step), okNs l → complexF rec f b l = some ss → ∃ all r, ss = (b, all) :: r ∧ qkA all ∧ qkR r
  | 0, _, _, _, _, h => by simp [complexF] at h
  | f + 1, b, l, ss, hn, h => by
    unfold complexF at h
    split at h
    · cases h
    · rename_i all r hc
      have h1 := compoundW_qk hrec hn hc
      split at h
      · cases h
      split at h
      · cases h
        exact ⟨_, _, rfl, h1.1, by simp [qkR]⟩
      · split at h
        · cases h
        · rename_i c r' hcb
          have h2 := combi_ok h1.2 hcb
          have hc2 := combi_qk hcb
          cases hx : complexF rec f c r' with
          | none => rw [hx] at h; cases h
          | some x =>
            rw [hx] at h
            simp at h
            subst h
            obtain ⟨all2, r2, rfl, h4, h5⟩ := complexF_qk f c r' x h2.2 hx
            exact ⟨_, _, rfl, h1.1, by simp only [qkR]; exact ⟨hc2, h4, h5⟩⟩
theorem eachW_qk : ∀ (ps : List (List Nd)) (ss : Sels), (∀ p ∈ ps, okNs p) → eachW rec ps = some ss → qkL ss
  | [], ss, _, h => by simp [eachW] at h; subst h; simp [qkL]
  | p :: r, ss, hp, h => by
    unfold eachW at h
    split at h
    · cases h
    · rename_i s hs
      cases hx : eachW rec r with
      | none => rw [hx] at h; cases h
      | some x =>
        rw [hx] at h
        simp at h
        subst h
        obtain ⟨all, r3, rfl, h4, h5⟩ := complexF_qk hrec _ _ _ _ (bare_ok (hp p (by simp))) hs
        simp only [qkL, qkC]
        exact ⟨⟨trivial, h4, h5⟩, eachW_qk r x (fun q hq => hp q (by simp [hq])) hx⟩
theorem listW_qk {l : List Nd} {ss : Sels} (hn : okNs l) (h : listW rec l = some ss) : qkL ss := by
  unfold listW at h
  split at h
  · cases h
  · exact eachW_qk hrec _ _ (partF_ok l [] [] (by simp) (by simp [okNs]) hn) h
end
theorem selF_qk : ∀ (f : Nat) (l : List Nd) (ss : Sels), okNs l → selF f l = some ss → qkL ss
  | 0, l, ss, hn, h => listW_qk (rec := fun _ => none) (fun _ _ _ h => by cases h) hn h
  | f + 1, l, ss, hn, h => listW_qk (rec := selF f) (fun l ss h1 h2 => selF_qk f l ss h1 h2) hn h
theorem qkL_at : ∀ (ss : Sels) (i : Nat) (_ : qkL ss) (h : i < ss.length), qkC ss[i]
  | c :: r, 0, h, _ => by simp only [qkL] at h; simpa using h.1
  | c :: r, i + 1, h, hi => by simp only [qkL] at h; simpa using qkL_at r i h.2 (by simpa using hi)
theorem qkR_at : ∀ (ss : List Step) (i : Nat) (_ : qkR ss) (h : i < ss.length), CbOK ss[i].1 ∧ qkA ss[i].2
  | (b, all) :: r, 0, h, _ => by simp only [qkR] at h; simpa using ⟨h.1, h.2.1⟩
  | (b, all) :: r, i + 1, h, hi => by simp only [qkR] at h; simpa using qkR_at r i h.2.2 (by simpa using hi)
theorem qkA_at : ∀ (ss : List Simple) (i : Nat) (_ : qkA ss) (h : i < ss.length), qkS ss[i]
  | c :: r, 0, h, _ => by simp only [qkA] at h; simpa using h.1
  | c :: r, i + 1, h, hi => by simp only [qkA] at h; simpa using qkA_at r i h.2 (by simpa using hi)
end Go.Proofs.YtlliliddljkbfaaGreat.Sp
namespace Go.Proofs.YtlliliddljkbfaaGreat
set_option maxHeartbeats 64000000
set_option maxRecDepth 100000
open Go.RowKit Sp
mutual
def zS : Simple → Nat
  | .mk _ nm how v l _ => 4 * nm.size + 4 * v.size + how.size + 120 + zL l
def zA : List Simple → Nat
  | [] => 0
  | s :: r => zS s + zA r
def zT : Nat × List Simple → Nat
  | (_, all) => 3 + zA all
def zC : List (Nat × List Simple) → Nat
  | [] => 0
  | t :: r => zT t + zC r
def zL : List (List (Nat × List Simple)) → Nat
  | [] => 0
  | c :: r => 1 + zC c + zL r
end
theorem attrO_size (nm how v : ByteArray) : (attrO nm how v).size ≤ 4 * nm.size + 4 * v.size + how.size + 4 := by
  have h1 := nameO_size nm
  have h2 := textO_size v
  have e : ∀ (c : UInt8), (b1 c).size = 1 := fun _ => rfl
  unfold attrO
  split
  · rw [ByteArray.size_append, ByteArray.size_append, e, e]; omega
  · rw [ByteArray.size_append, ByteArray.size_append, ByteArray.size_append, ByteArray.size_append, e, e]; omega
theorem combO_size (b : Nat) : (combO b).size ≤ 3 := by
  unfold combO
  split
  · show 1 ≤ 3; omega
  · split
    · show 3 ≤ 3; omega
    · show 0 ≤ 3; omega
def DecSz [DecI] : Prop := ∀ n, n ≤ 1000 → (decO n).size ≤ 100
mutual
theorem simO_size [DecI] (hd : DecSz) : ∀ (s : Simple), qkS s → (simO s).size ≤ zS s
  | .mk k nm how v l p, hq => by
    have h1 := nameO_size nm
    have h2 := attrO_size nm how v
    have e : ∀ (c : UInt8), (b1 c).size = 1 := fun _ => rfl
    simp only [qkS] at hq
    have h3 := listO_size hd l hq.2
    have hp := hq.1.place
    unfold simO zS
    by_cases k1 : k = 116
    · rw [if_pos k1]
      split
      · rw [e]; omega
      · omega
    rw [if_neg k1]
    by_cases k2 : k = 35
    · rw [if_pos k2, ByteArray.size_append, e]; omega
    rw [if_neg k2]
    by_cases k3 : k = 46
    · rw [if_pos k3, ByteArray.size_append, e]; omega
    rw [if_neg k3]
    by_cases k4 : k = 91
    · rw [if_pos k4]; omega
    rw [if_neg k4]
    by_cases k5 : nm = nNot ∨ nm = nIs
    · rw [if_pos k5]
      simp only [ByteArray.size_append, e]
      omega
    rw [if_neg k5]
    by_cases k6 : nm = nNth
    · rw [if_pos k6]
      have h4 : (if p = 0 then nOdd else if p = 1 then nEven else decO (p - 2)).size ≤ 100 := by
        split
        · show 3 ≤ 100; omega
        · split
          · show 4 ≤ 100; omega
          · exact hd _ (by omega)
      simp only [ByteArray.size_append, e]
      omega
    rw [if_neg k6, ByteArray.size_append, e]
    omega
theorem allO_size [DecI] (hd : DecSz) : ∀ (l : List Simple), qkA l → (allO l).size ≤ zA l
  | [], _ => by unfold allO; show 0 ≤ _; omega
  | s :: r, hq => by
    simp only [qkA] at hq
    unfold allO zA
    have := simO_size hd s hq.1
    have := allO_size hd r hq.2
    rw [ByteArray.size_append]; omega
theorem stpO_size [DecI] (hd : DecSz) : ∀ (t : Nat × List Simple), qkA t.2 → (stpO t).size ≤ zT t
  | (b, all), hq => by
    unfold stpO zT
    have := combO_size b
    have := allO_size hd all hq
    rw [ByteArray.size_append]; omega
theorem cpxR_size [DecI] (hd : DecSz) : ∀ (c : List (Nat × List Simple)), qkR c → (cpxO c).size ≤ zC c
  | [], _ => by unfold cpxO; show 0 ≤ _; omega
  | (b, all) :: r, hq => by
    simp only [qkR] at hq
    unfold cpxO zC
    have := stpO_size hd (b, all) hq.2.1
    have := cpxR_size hd r hq.2.2
    rw [ByteArray.size_append]; omega
theorem cpxC_size [DecI] (hd : DecSz) : ∀ (c : List (Nat × List Simple)), qkC c → (cpxO c).size ≤ zC c
  | [], hq => by simp only [qkC] at hq
  | (b, all) :: r, hq => by
    simp only [qkC] at hq
    unfold cpxO zC
    have := stpO_size hd (b, all) hq.2.1
    have := cpxR_size hd r hq.2.2
    rw [ByteArray.size_append]; omega
theorem listO_size [DecI] (hd : DecSz) : ∀ (l : List (List (Nat × List Simple))), qkL l → (listO nob l).size ≤ zL l
  | [], _ => by unfold listO; show 0 ≤ _; omega
  | c :: r, hq => by
    simp only [qkL] at hq
    unfold listO zL
    have := cpxC_size hd c hq.1
    have := tailO_size hd r hq.2
    have e : nob.size = 0 := rfl
    rw [ByteArray.size_append, ByteArray.size_append, e]; omega
theorem tailO_size [DecI] (hd : DecSz) : ∀ (l : List (List (Nat × List Simple))), qkL l → (tailO nob l).size ≤ zL l
  | [], _ => by unfold tailO; show 0 ≤ _; omega
  | c :: r, hq => by
    simp only [qkL] at hq
    unfold tailO zL
    have := cpxC_size hd c hq.1
    have := tailO_size hd r hq.2
    have e : nob.size = 0 := rfl
    have e2 : (b1 44).size = 1 := rfl
    rw [ByteArray.size_append, ByteArray.size_append, ByteArray.size_append, e, e2]; omega
end
end Go.Proofs.YtlliliddljkbfaaGreat
