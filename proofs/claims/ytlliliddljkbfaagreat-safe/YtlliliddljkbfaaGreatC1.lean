import Derived.Test.YtlliliddljkbfaaGreatRows
import Derived.WalkKit
import Derived.WalkSpells
import Derived.WalkLawsBesides
namespace Go.Proofs.YtlliliddljkbfaaGreat.Sp
set_option maxHeartbeats 64000000
set_option maxRecDepth 100000
def pk (s : ByteArray) (i : Nat) : Int := if h : i < s.size then (s[i].toNat : Int) else -1
def blankI (c : Int) : Bool := c == 10 || c == 9 || c == 32
def digI (c : Int) : Bool := decide (48 ≤ c) && decide (c ≤ 57)
def lettI (c : Int) : Bool := (decide (97 ≤ c) && decide (c ≤ 122)) || (decide (65 ≤ c) && decide (c ≤ 90)) || c == 95 || decide (127 < c)
def nameI (c : Int) : Bool := lettI c || digI c || c == 45
def signI (c : Int) : Bool := c == 43 || c == 45
def quoteI (c : Int) : Bool := c == 34 || c == 39
def spoilI (c : Int) : Bool := quoteI c || c == 40 || c == 92 || decide (c < 32) || c == 127
def hexI (c : Int) : Int :=
  if digI c = true then c - 48 else if 97 ≤ c ∧ c ≤ 102 then c - 97 + 10 else if 65 ≤ c ∧ c ≤ 70 then c - 65 + 10 else -1
def one (s : ByteArray) (i : Nat) : ByteArray := s.extract i (i + 1)
def escB (s : ByteArray) (i : Nat) : Bool := pk s i == 92 && pk s (i + 1) != 10
def goesB (s : ByteArray) (i : Nat) : Bool := nameI (pk s i) || escB s i
def begB (s : ByteArray) (i : Nat) : Bool :=
  if pk s i = 45 then lettI (pk s (i + 1)) || pk s (i + 1) == 45 || escB s (i + 1) else lettI (pk s i) || escB s i
def hexF (s : ByteArray) : Nat → Nat → Nat → Nat × Nat
  | 0, i, n => (n, i)
  | f + 1, i, n => if 0 ≤ hexI (pk s i) then hexF s f (i + 1) (n * 16 + (hexI (pk s i)).toNat) else (n, i)
def ques : ByteArray := ⟨#[63]⟩
def byte1 (n : Nat) : ByteArray := ⟨#[UInt8.ofNat n]⟩
def esc (s : ByteArray) (i : Nat) : ByteArray × Nat :=
  let r := hexF s 6 (i + 1) 0
  if r.2 = i + 1 then (if i + 1 < s.size then (one s (i + 1), i + 2) else (ques, i + 1))
  else (if 1 ≤ r.1 ∧ r.1 ≤ 255 then byte1 r.1 else ques, if blankI (pk s r.2) = true then r.2 + 1 else r.2)
def nameF (s : ByteArray) : Nat → Nat → ByteArray → ByteArray × Nat
  | 0, i, acc => (acc, i)
  | f + 1, i, acc =>
    if nameI (pk s i) = true then nameF s f (i + 1) (acc ++ one s i)
    else if escB s i = true then nameF s f (esc s i).2 (acc ++ (esc s i).1)
    else (acc, i)
def name (s : ByteArray) (i : Nat) : ByteArray × Nat := nameF s s.size i ByteArray.empty
def blkF (s : ByteArray) : Nat → Nat → Nat
  | 0, i => i
  | f + 1, i => if blankI (pk s i) = true then blkF s f (i + 1) else i
def blk (s : ByteArray) (i : Nat) : Nat := blkF s s.size i
def digF (s : ByteArray) : Nat → Nat → Nat
  | 0, i => i
  | f + 1, i => if digI (pk s i) = true then digF s f (i + 1) else i
def dig (s : ByteArray) (i : Nat) : Nat := digF s s.size i
def sgn (s : ByteArray) (i : Nat) : Nat := if signI (pk s i) = true then i + 1 else i
def numB (s : ByteArray) (i : Nat) : Bool := digI (pk s (sgn s i)) || (pk s (sgn s i) == 46 && digI (pk s (sgn s i + 1)))
def expE (s : ByteArray) (k : Nat) : Nat :=
  if pk s k = 101 ∨ pk s k = 69 then (if digI (pk s (sgn s (k + 1))) = true then dig s (sgn s (k + 1)) else k) else k
def fracE (s : ByteArray) (k : Nat) : Nat := if pk s k = 46 ∧ digI (pk s (k + 1)) = true then dig s (k + 1) else k
def numE (s : ByteArray) (i : Nat) : Nat := expE s (fracE s (dig s (sgn s i)))
def starF (s : ByteArray) : Nat → Nat → Nat
  | 0, k => k
  | f + 1, k => if k < s.size ∧ ¬ (pk s k = 42 ∧ pk s (k + 1) = 47) then starF s f (k + 1) else k
def star (s : ByteArray) (k : Nat) : Nat := starF s s.size k
def comF (s : ByteArray) : Nat → Nat → Nat
  | 0, i => i
  | f + 1, i => if pk s i = 47 ∧ pk s (i + 1) = 42 then (if s.size ≤ star s (i + 2) then s.size else comF s f (star s (i + 2) + 2)) else i
def com (s : ByteArray) (i : Nat) : Nat := comF s s.size i
structure Tok where
  kind : Int
  word : ByteArray
  unit : ByteArray
def Tok.k (n : Int) : Tok := ⟨n, ByteArray.empty, ByteArray.empty⟩
def Tok.w (n : Int) (x : ByteArray) : Tok := ⟨n, x, ByteArray.empty⟩
def txtF (s : ByteArray) (q : Int) : Nat → Nat → ByteArray → Tok × Nat
  | 0, i, acc => (Tok.w 2 acc, i)
  | f + 1, i, acc =>
    if s.size ≤ i then (Tok.w 2 acc, i)
    else if pk s i = q then (Tok.w 2 acc, i + 1)
    else if pk s i = 10 then (Tok.k 3, i)
    else if pk s i = 92 then
      (if s.size ≤ i + 1 then txtF s q f (i + 1) acc
       else if pk s (i + 1) = 10 then txtF s q f (i + 2) acc
       else txtF s q f (esc s i).2 (acc ++ (esc s i).1))
    else txtF s q f (i + 1) (acc ++ one s i)
def txt (s : ByteArray) (q : Int) (i : Nat) : Tok × Nat := txtF s q s.size i ByteArray.empty
def badF (s : ByteArray) : Nat → Nat → Nat
  | 0, i => i
  | f + 1, i =>
    if s.size ≤ i then i
    else if pk s i = 41 then i + 1
    else if escB s i = true then badF s f (esc s i).2
    else badF s f (i + 1)
def bad (s : ByteArray) (i : Nat) : Nat := badF s s.size i
def linkF (s : ByteArray) : Nat → Nat → ByteArray → Tok × Nat
  | 0, i, acc => (Tok.w 12 acc, i)
  | f + 1, i, acc =>
    if s.size ≤ i then (Tok.w 12 acc, i)
    else if pk s i = 41 then (Tok.w 12 acc, i + 1)
    else if blankI (pk s i) = true then
      (if s.size ≤ blk s i then (Tok.w 12 acc, blk s i)
       else if pk s (blk s i) = 41 then (Tok.w 12 acc, blk s i + 1)
       else (Tok.k 13, bad s (blk s i)))
    else if escB s i = true then linkF s f (esc s i).2 (acc ++ (esc s i).1)
    else if spoilI (pk s i) = true then (Tok.k 13, bad s i)
    else linkF s f (i + 1) (acc ++ one s i)
def link (s : ByteArray) (i : Nat) : Tok × Nat := linkF s s.size i ByteArray.empty
def smallB (c : UInt8) : UInt8 := if 65 ≤ c ∧ c ≤ 90 then c + 32 else c
def small (s : ByteArray) : ByteArray := ⟨(s.data.toList.map smallB).toArray⟩
def url : ByteArray := ⟨#[117, 114, 108]⟩
def numeric (s : ByteArray) (i : Nat) : Tok × Nat :=
  let k := numE s i
  if pk s k = 37 then (Tok.w 6 (s.extract i k), k + 1)
  else if begB s k = true then (⟨7, s.extract i k, (name s k).1⟩, (name s k).2)
  else (Tok.w 5 (s.extract i k), k)
def named (s : ByteArray) (i : Nat) : Tok × Nat :=
  let r := name s i
  if pk s r.2 = 40 then
    (if small r.1 = url ∧ quoteI (pk s (blk s (r.2 + 1))) = false then link s (blk s (r.2 + 1))
     else (Tok.w 11 r.1, r.2 + 1))
  else (Tok.w 14 r.1, r.2)
def sees4 (s : ByteArray) (i : Nat) : Bool := pk s i == 60 && pk s (i + 1) == 33 && pk s (i + 2) == 45 && pk s (i + 3) == 45
def sees3 (s : ByteArray) (i : Nat) : Bool := pk s i == 45 && pk s (i + 1) == 45 && pk s (i + 2) == 62
def token (s : ByteArray) (i : Nat) : Tok × Nat :=
  if blankI (pk s i) = true then (Tok.k 1, blk s i)
  else if quoteI (pk s i) = true then txt s (pk s i) (i + 1)
  else if pk s i = 35 ∧ goesB s (i + 1) = true then (Tok.w 4 (name s (i + 1)).1, (name s (i + 1)).2)
  else if numB s i = true then numeric s i
  else if sees4 s i = true then (Tok.k 8, i + 4)
  else if sees3 s i = true then (Tok.k 9, i + 3)
  else if pk s i = 64 ∧ begB s (i + 1) = true then (Tok.w 10 (name s (i + 1)).1, (name s (i + 1)).2)
  else if begB s i = true then named s i
  else (Tok.w 15 (one s i), i + 1)
def tokF (s : ByteArray) : Nat → Nat → List Tok
  | 0, _ => []
  | f + 1, i => if s.size ≤ i then [] else (token s i).1 :: tokF s f (com s (token s i).2)
def toks (s : ByteArray) : List Tok := tokF s s.size (com s 0)
def clB (s : ByteArray) (i : Nat) : List UInt8 :=
  if h : i < s.size then
    (if s[i] = 13 ∧ pk s (i + 1) = 10 then [] else if s[i] = 13 ∨ s[i] = 12 then [10] else if s[i] = 0 then [63] else [s[i]])
  else []
def cleanTo (s : ByteArray) : Nat → List UInt8
  | 0 => []
  | k + 1 => cleanTo s k ++ clB s k
def clean (s : ByteArray) : ByteArray := ⟨(cleanTo s s.size).toArray⟩
def answer (sheet : ByteArray) : List Tok × Int := if 600 < sheet.size then ([], 1) else (toks (clean sheet), 0)
end Go.Proofs.YtlliliddljkbfaaGreat.Sp
namespace Go.Proofs.YtlliliddljkbfaaGreat.Sp
set_option maxHeartbeats 64000000
set_option maxRecDepth 100000
theorem pk_in {s : ByteArray} {i : Nat} (h : i < s.size) : pk s i = (s[i].toNat : Int) := by unfold pk; rw [dif_pos h]
theorem pk_out {s : ByteArray} {i : Nat} (h : s.size ≤ i) : pk s i = -1 := by unfold pk; rw [dif_neg (by omega)]
theorem pk_lo (s : ByteArray) (i : Nat) : -1 ≤ pk s i := by unfold pk; split <;> omega
theorem pk_hi (s : ByteArray) (i : Nat) : pk s i ≤ 255 := by
  unfold pk; split
  · have := (s[i]).toNat_lt; omega
  · omega
theorem pk_lt {s : ByteArray} {i : Nat} (h : 0 ≤ pk s i) : i < s.size := by
  by_cases h1 : i < s.size
  · exact h1
  · rw [pk_out (by omega)] at h; omega
theorem pk_nn {s : ByteArray} {i : Nat} (h : i < s.size) : 0 ≤ pk s i := by rw [pk_in h]; omega
theorem blank_nn {c : Int} (h : blankI c = true) : 0 ≤ c := by simp [blankI] at h; omega
theorem dig_nn {c : Int} (h : digI c = true) : 48 ≤ c ∧ c ≤ 57 := by simp [digI] at h; exact h
theorem lett_nn {c : Int} (h : lettI c = true) : 0 ≤ c := by simp [lettI] at h; omega
theorem name_nn {c : Int} (h : nameI c = true) : 0 ≤ c := by
  simp only [nameI, Bool.or_eq_true, beq_iff_eq] at h
  rcases h with (h | h) | h
  · exact lett_nn h
  · have := dig_nn h; omega
  · omega
theorem sign_nn {c : Int} (h : signI c = true) : 0 ≤ c := by simp [signI] at h; omega
theorem quote_nn {c : Int} (h : quoteI c = true) : 0 ≤ c := by simp [quoteI] at h; omega
theorem hex_nn {c : Int} (h : 0 ≤ hexI c) : 0 ≤ c := by
  unfold hexI at h
  split at h
  · rename_i h1; have := dig_nn h1; omega
  · split at h
    · omega
    · split at h <;> omega
theorem hex_hi (c : Int) : hexI c ≤ 15 := by
  unfold hexI
  split
  · rename_i h1; have := dig_nn h1; omega
  · split
    · omega
    · split <;> omega
theorem hex_lo (c : Int) : -1 ≤ hexI c := by
  unfold hexI
  split
  · rename_i h1; have := dig_nn h1; omega
  · split
    · omega
    · split <;> omega
theorem esc_at {s : ByteArray} {i : Nat} (h : escB s i = true) : pk s i = 92 ∧ pk s (i + 1) ≠ 10 := by simpa [escB] using h
theorem esc_lt {s : ByteArray} {i : Nat} (h : escB s i = true) : i < s.size := pk_lt (by have := (esc_at h).1; omega)
theorem size_one {s : ByteArray} {i : Nat} (h : i < s.size) : (one s i).size = 1 := by simp [one]; omega
theorem hexF_ge (s : ByteArray) : ∀ f i n, i ≤ (hexF s f i n).2
  | 0, i, n => Nat.le_refl _
  | f + 1, i, n => by
    unfold hexF
    split
    · have := hexF_ge s f (i + 1) (n * 16 + (hexI (pk s i)).toNat); omega
    · exact Nat.le_refl _
theorem hexF_le (s : ByteArray) : ∀ f i n, i ≤ s.size → (hexF s f i n).2 ≤ s.size
  | 0, i, n, h => h
  | f + 1, i, n, h => by
    unfold hexF
    split
    · rename_i h1; exact hexF_le s f (i + 1) _ (pk_lt (hex_nn h1))
    · exact h
theorem esc_gt (s : ByteArray) (i : Nat) : i < (esc s i).2 := by
  have h := hexF_ge s 6 (i + 1) 0
  unfold esc
  dsimp only
  split
  · split <;> dsimp only <;> omega
  · dsimp only; split <;> omega
theorem esc_le {s : ByteArray} {i : Nat} (hi : i < s.size) : (esc s i).2 ≤ s.size := by
  have h := hexF_le s 6 (i + 1) 0 (by omega)
  unfold esc
  dsimp only
  split
  · split <;> dsimp only <;> omega
  · dsimp only
    split
    · rename_i h1; have := pk_lt (blank_nn h1); omega
    · exact h
theorem size_esc {s : ByteArray} {i : Nat} : (esc s i).1.size = 1 := by
  unfold esc
  dsimp only
  split
  · split
    · rename_i h; exact size_one h
    · rfl
  · dsimp only; split <;> rfl
theorem nameF_ge (s : ByteArray) : ∀ f i acc, i ≤ (nameF s f i acc).2
  | 0, i, acc => Nat.le_refl _
  | f + 1, i, acc => by
    unfold nameF
    split
    · have := nameF_ge s f (i + 1) (acc ++ one s i); omega
    · split
      · have := nameF_ge s f (esc s i).2 (acc ++ (esc s i).1); have := esc_gt s i; omega
      · exact Nat.le_refl _
theorem nameF_le (s : ByteArray) : ∀ f i acc, i ≤ s.size → (nameF s f i acc).2 ≤ s.size
  | 0, i, acc, h => h
  | f + 1, i, acc, h => by
    unfold nameF
    split
    · rename_i h1; exact nameF_le s f (i + 1) _ (pk_lt (name_nn h1))
    · split
      · rename_i h1; exact nameF_le s f _ _ (esc_le (esc_lt h1))
      · exact h
theorem name_ge (s : ByteArray) (i : Nat) : i ≤ (name s i).2 := nameF_ge _ _ _ _
theorem name_le {s : ByteArray} {i : Nat} (h : i ≤ s.size) : (name s i).2 ≤ s.size := nameF_le _ _ _ _ h
theorem name_gt {s : ByteArray} {i : Nat} (h : goesB s i = true) : i < (name s i).2 := by
  have hl : i < s.size := by
    simp only [goesB, Bool.or_eq_true] at h
    rcases h with h | h
    · exact pk_lt (name_nn h)
    · exact esc_lt h
  unfold name
  obtain ⟨f, hf⟩ : ∃ f, s.size = f + 1 := ⟨s.size - 1, by omega⟩
  rw [hf]
  unfold nameF
  split
  · have := nameF_ge s f (i + 1) (ByteArray.empty ++ one s i); omega
  · split
    · have := nameF_ge s f (esc s i).2 (ByteArray.empty ++ (esc s i).1); have := esc_gt s i; omega
    · rename_i h1 h2; simp [goesB, h1, h2] at h
theorem beg_goes {s : ByteArray} {i : Nat} (h : begB s i = true) : goesB s i = true := by
  unfold begB at h
  split at h
  · rename_i h1; simp [goesB, nameI, h1]
  · simp only [Bool.or_eq_true] at h
    rcases h with h | h
    · simp [goesB, nameI, h]
    · simp [goesB, h]
theorem blkF_ge (s : ByteArray) : ∀ f i, i ≤ blkF s f i
  | 0, i => Nat.le_refl _
  | f + 1, i => by
    unfold blkF
    split
    · have := blkF_ge s f (i + 1); omega
    · exact Nat.le_refl _
theorem blkF_le (s : ByteArray) : ∀ f i, i ≤ s.size → blkF s f i ≤ s.size
  | 0, i, h => h
  | f + 1, i, h => by
    unfold blkF
    split
    · rename_i h1; exact blkF_le s f (i + 1) (pk_lt (blank_nn h1))
    · exact h
theorem blk_ge (s : ByteArray) (i : Nat) : i ≤ blk s i := blkF_ge _ _ _
theorem blk_le {s : ByteArray} {i : Nat} (h : i ≤ s.size) : blk s i ≤ s.size := blkF_le _ _ _ h
theorem blk_gt {s : ByteArray} {i : Nat} (h : blankI (pk s i) = true) : i < blk s i := by
  have hl := pk_lt (blank_nn h)
  unfold blk
  obtain ⟨f, hf⟩ : ∃ f, s.size = f + 1 := ⟨s.size - 1, by omega⟩
  rw [hf]
  unfold blkF
  rw [if_pos h]
  have := blkF_ge s f (i + 1); omega
theorem digF_ge (s : ByteArray) : ∀ f i, i ≤ digF s f i
  | 0, i => Nat.le_refl _
  | f + 1, i => by
    unfold digF
    split
    · have := digF_ge s f (i + 1); omega
    · exact Nat.le_refl _
theorem digF_le (s : ByteArray) : ∀ f i, i ≤ s.size → digF s f i ≤ s.size
  | 0, i, h => h
  | f + 1, i, h => by
    unfold digF
    split
    · rename_i h1; exact digF_le s f (i + 1) (pk_lt (by have := dig_nn h1; omega))
    · exact h
theorem dig_ge (s : ByteArray) (i : Nat) : i ≤ dig s i := digF_ge _ _ _
theorem dig_le {s : ByteArray} {i : Nat} (h : i ≤ s.size) : dig s i ≤ s.size := digF_le _ _ _ h
theorem dig_gt {s : ByteArray} {i : Nat} (h : digI (pk s i) = true) : i < dig s i := by
  have hl : i < s.size := pk_lt (by have := dig_nn h; omega)
  unfold dig
  obtain ⟨f, hf⟩ : ∃ f, s.size = f + 1 := ⟨s.size - 1, by omega⟩
  rw [hf]
  unfold digF
  rw [if_pos h]
  have := digF_ge s f (i + 1); omega
theorem dig_same {s : ByteArray} {i : Nat} (h : digI (pk s i) = false) : dig s i = i := by
  unfold dig
  cases hf : s.size with
  | zero => rfl
  | succ f => unfold digF; rw [if_neg (by simp [h])]
theorem sgn_ge (s : ByteArray) (i : Nat) : i ≤ sgn s i := by unfold sgn; split <;> omega
theorem sgn_le {s : ByteArray} {i : Nat} (h : i ≤ s.size) : sgn s i ≤ s.size := by
  unfold sgn; split
  · rename_i h1; have := pk_lt (sign_nn h1); omega
  · exact h
theorem sgn_le1 (s : ByteArray) (i : Nat) : sgn s i ≤ i + 1 := by unfold sgn; split <;> omega
theorem expE_ge (s : ByteArray) (k : Nat) : k ≤ expE s k := by
  unfold expE
  split
  · split
    · have := dig_ge s (sgn s (k + 1)); have := sgn_ge s (k + 1); omega
    · exact Nat.le_refl _
  · exact Nat.le_refl _
theorem expE_le {s : ByteArray} {k : Nat} (h : k ≤ s.size) : expE s k ≤ s.size := by
  unfold expE
  split
  · split
    · rename_i h2; exact dig_le (by have := pk_lt (s := s) (i := sgn s (k + 1)) (by have := dig_nn h2; omega); omega)
    · exact h
  · exact h
theorem fracE_ge (s : ByteArray) (k : Nat) : k ≤ fracE s k := by
  unfold fracE
  split
  · have := dig_ge s (k + 1); omega
  · exact Nat.le_refl _
theorem fracE_le {s : ByteArray} {k : Nat} (h : k ≤ s.size) : fracE s k ≤ s.size := by
  unfold fracE
  split
  · rename_i h2; exact dig_le (by have := pk_lt (s := s) (i := k + 1) (by have := dig_nn h2.2; omega); omega)
  · exact h
theorem numE_le {s : ByteArray} {i : Nat} (h : i ≤ s.size) : numE s i ≤ s.size := expE_le (fracE_le (dig_le (sgn_le h)))
theorem numE_gt {s : ByteArray} {i : Nat} (h : numB s i = true) : i < numE s i := by
  have h1 := sgn_ge s i
  have h3 := fracE_ge s (dig s (sgn s i))
  have h4 := expE_ge s (fracE s (dig s (sgn s i)))
  unfold numE
  simp only [numB, Bool.or_eq_true, Bool.and_eq_true, beq_iff_eq] at h
  rcases h with h | ⟨h, h'⟩
  · have := dig_gt h; omega
  · have e : digI (pk s (sgn s i)) = false := by rw [h]; rfl
    have h5 : fracE s (sgn s i) = dig s (sgn s i + 1) := by unfold fracE; rw [if_pos ⟨h, h'⟩]
    have := dig_ge s (sgn s i + 1)
    rw [dig_same e] at h3 h4 ⊢
    omega
theorem numE_ge (s : ByteArray) (i : Nat) : i ≤ numE s i := by
  have h1 := sgn_ge s i
  have h2 := dig_ge s (sgn s i)
  have h3 := fracE_ge s (dig s (sgn s i))
  have h4 := expE_ge s (fracE s (dig s (sgn s i)))
  unfold numE; omega
theorem starF_ge (s : ByteArray) : ∀ f k, k ≤ starF s f k
  | 0, k => Nat.le_refl _
  | f + 1, k => by
    unfold starF
    split
    · have := starF_ge s f (k + 1); omega
    · exact Nat.le_refl _
theorem starF_le (s : ByteArray) : ∀ f k, k ≤ s.size → starF s f k ≤ s.size
  | 0, k, h => h
  | f + 1, k, h => by
    unfold starF
    split
    · exact starF_le s f (k + 1) (by omega)
    · exact h
theorem star_ge (s : ByteArray) (k : Nat) : k ≤ star s k := starF_ge _ _ _
theorem star_le {s : ByteArray} {k : Nat} (h : k ≤ s.size) : star s k ≤ s.size := starF_le _ _ _ h
theorem starF_at (s : ByteArray) : ∀ f k, s.size ≤ k + f → starF s f k < s.size → pk s (starF s f k) = 42 ∧ pk s (starF s f k + 1) = 47
  | 0, k, h, h' => by unfold starF at h'; omega
  | f + 1, k, h, h' => by
    unfold starF at h' ⊢
    split
    · rename_i h1; rw [if_pos h1] at h'; exact starF_at s f (k + 1) (by omega) h'
    · rename_i h1; rw [if_neg h1] at h'; exact Classical.byContradiction fun hn => h1 ⟨h', hn⟩
theorem star_at {s : ByteArray} {k : Nat} (h : star s k < s.size) : pk s (star s k) = 42 ∧ pk s (star s k + 1) = 47 := starF_at _ _ _ (by omega) h
theorem star_le2 {s : ByteArray} {k : Nat} (h : star s k < s.size) : star s k + 2 ≤ s.size := by
  have := pk_lt (s := s) (i := star s k + 1) (by have := (star_at h).2; omega); omega
theorem comF_ge (s : ByteArray) : ∀ f i, i ≤ s.size → i ≤ comF s f i
  | 0, i, _ => Nat.le_refl _
  | f + 1, i, h => by
    unfold comF
    split
    · split
      · exact h
      · rename_i h2
        have h3 := star_ge s (i + 2)
        have h4 := star_le2 (s := s) (k := i + 2) (by omega)
        have := comF_ge s f (star s (i + 2) + 2) h4; omega
    · exact Nat.le_refl _
theorem comF_le (s : ByteArray) : ∀ f i, i ≤ s.size → comF s f i ≤ s.size
  | 0, i, h => h
  | f + 1, i, h => by
    unfold comF
    split
    · split
      · exact Nat.le_refl _
      · exact comF_le s f _ (star_le2 (by omega))
    · exact h
theorem com_ge {s : ByteArray} {i : Nat} (h : i ≤ s.size) : i ≤ com s i := comF_ge _ _ _ h
theorem com_le {s : ByteArray} {i : Nat} (h : i ≤ s.size) : com s i ≤ s.size := comF_le _ _ _ h
theorem txtF_ge (s : ByteArray) (q : Int) : ∀ f i acc, i ≤ (txtF s q f i acc).2
  | 0, i, acc => Nat.le_refl _
  | f + 1, i, acc => by
    unfold txtF
    split
    · exact Nat.le_refl _
    · split
      · exact Nat.le_succ _
      · split
        · exact Nat.le_refl _
        · split
          · split
            · have := txtF_ge s q f (i + 1) acc; omega
            · split
              · have := txtF_ge s q f (i + 2) acc; omega
              · have := txtF_ge s q f (esc s i).2 (acc ++ (esc s i).1); have := esc_gt s i; omega
          · have := txtF_ge s q f (i + 1) (acc ++ one s i); omega
theorem txtF_le (s : ByteArray) (q : Int) : ∀ f i acc, i ≤ s.size → (txtF s q f i acc).2 ≤ s.size
  | 0, i, acc, h => h
  | f + 1, i, acc, h => by
    unfold txtF
    split
    · exact h
    · split
      · show i + 1 ≤ s.size; omega
      · split
        · exact h
        · split
          · split
            · exact txtF_le s q f _ _ (by omega)
            · split
              · rename_i h5 h6; exact txtF_le s q f _ _ (by have := pk_lt (s := s) (i := i + 1) (by omega); omega)
              · exact txtF_le s q f _ _ (esc_le (by omega))
          · exact txtF_le s q f _ _ (by omega)
theorem txt_ge (s : ByteArray) (q : Int) (i : Nat) : i ≤ (txt s q i).2 := txtF_ge _ _ _ _ _
theorem txt_le {s : ByteArray} {q : Int} {i : Nat} (h : i ≤ s.size) : (txt s q i).2 ≤ s.size := txtF_le _ _ _ _ _ h
theorem badF_ge (s : ByteArray) : ∀ f i, i ≤ badF s f i
  | 0, i => Nat.le_refl _
  | f + 1, i => by
    unfold badF
    split
    · exact Nat.le_refl _
    · split
      · exact Nat.le_succ _
      · split
        · have := badF_ge s f (esc s i).2; have := esc_gt s i; omega
        · have := badF_ge s f (i + 1); omega
theorem badF_le (s : ByteArray) : ∀ f i, i ≤ s.size → badF s f i ≤ s.size
  | 0, i, h => h
  | f + 1, i, h => by
    unfold badF
    split
    · exact h
    · split
      · omega
      · split
        · exact badF_le s f _ (esc_le (by omega))
        · exact badF_le s f _ (by omega)
theorem bad_ge (s : ByteArray) (i : Nat) : i ≤ bad s i := badF_ge _ _ _
theorem bad_le {s : ByteArray} {i : Nat} (h : i ≤ s.size) : bad s i ≤ s.size := badF_le _ _ _ h
theorem linkF_ge (s : ByteArray) : ∀ f i acc, i ≤ (linkF s f i acc).2
  | 0, i, acc => Nat.le_refl _
  | f + 1, i, acc => by
    unfold linkF
    split
    · exact Nat.le_refl _
    · split
      · exact Nat.le_succ _
      · split
        · have h1 := blk_ge s i
          have h2 := bad_ge s (blk s i)
          split
          · exact h1
          · split
            · show i ≤ blk s i + 1; omega
            · show i ≤ bad s (blk s i); omega
        · split
          · have := linkF_ge s f (esc s i).2 (acc ++ (esc s i).1); have := esc_gt s i; omega
          · split
            · exact bad_ge s i
            · have := linkF_ge s f (i + 1) (acc ++ one s i); omega
theorem linkF_le (s : ByteArray) : ∀ f i acc, i ≤ s.size → (linkF s f i acc).2 ≤ s.size
  | 0, i, acc, h => h
  | f + 1, i, acc, h => by
    unfold linkF
    split
    · exact h
    · split
      · show i + 1 ≤ s.size; omega
      · split
        · have h1 := blk_le h
          split
          · exact h1
          · split
            · show blk s i + 1 ≤ s.size; omega
            · exact bad_le h1
        · split
          · exact linkF_le s f _ _ (esc_le (by omega))
          · split
            · exact bad_le h
            · exact linkF_le s f _ _ (by omega)
theorem link_ge (s : ByteArray) (i : Nat) : i ≤ (link s i).2 := linkF_ge _ _ _ _
theorem link_le {s : ByteArray} {i : Nat} (h : i ≤ s.size) : (link s i).2 ≤ s.size := linkF_le _ _ _ _ h
theorem numeric_gt {s : ByteArray} {i : Nat} (h : numB s i = true) : i < (numeric s i).2 := by
  have h1 := numE_gt h
  have h2 := name_ge s (numE s i)
  unfold numeric
  dsimp only
  split
  · dsimp only; omega
  · split <;> dsimp only <;> omega
theorem numeric_le {s : ByteArray} {i : Nat} (h : i ≤ s.size) : (numeric s i).2 ≤ s.size := by
  have h1 := numE_le h
  unfold numeric
  dsimp only
  split
  · rename_i h2; have := pk_lt (s := s) (i := numE s i) (by omega); dsimp only; omega
  · split
    · exact name_le h1
    · exact h1
theorem named_gt {s : ByteArray} {i : Nat} (h : begB s i = true) : i < (named s i).2 := by
  have h1 := name_gt (beg_goes h)
  have h2 := blk_ge s ((name s i).2 + 1)
  have h3 := link_ge s (blk s ((name s i).2 + 1))
  unfold named
  dsimp only
  split
  · split <;> (try dsimp only) <;> omega
  · exact h1
theorem named_le {s : ByteArray} {i : Nat} (h : i ≤ s.size) : (named s i).2 ≤ s.size := by
  have h1 := name_le h
  unfold named
  dsimp only
  split
  · rename_i h2
    have := pk_lt (s := s) (i := (name s i).2) (by omega)
    split
    · exact link_le (blk_le (by omega))
    · dsimp only; omega
  · exact h1
theorem token_gt {s : ByteArray} {i : Nat} (_hi : i < s.size) : i < (token s i).2 := by
  unfold token
  split
  · rename_i h; exact blk_gt h
  · split
    · have := txt_ge s (pk s i) (i + 1); omega
    · split
      · have := name_ge s (i + 1); dsimp only; omega
      · split
        · rename_i h; exact numeric_gt h
        · split
          · dsimp only; omega
          · split
            · dsimp only; omega
            · split
              · have := name_ge s (i + 1); dsimp only; omega
              · split
                · rename_i h; exact named_gt h
                · dsimp only; omega
theorem token_le {s : ByteArray} {i : Nat} (hi : i < s.size) : (token s i).2 ≤ s.size := by
  unfold token
  split
  · exact blk_le (by omega)
  · split
    · exact txt_le (by omega)
    · split
      · exact name_le (by omega)
      · split
        · exact numeric_le (by omega)
        · split
          · rename_i h; simp [sees4] at h; have := pk_lt (s := s) (i := i + 3) (by omega); dsimp only; omega
          · split
            · rename_i h; simp [sees3] at h; have := pk_lt (s := s) (i := i + 2) (by omega); dsimp only; omega
            · split
              · exact name_le (by omega)
              · split
                · exact named_le (by omega)
                · dsimp only; omega
theorem tokF_len (s : ByteArray) : ∀ f i, i ≤ s.size → (tokF s f i).length + i ≤ s.size
  | 0, i, h => by simpa [tokF] using h
  | f + 1, i, h => by
    unfold tokF
    split
    · simpa using h
    · have h1 := token_gt (s := s) (i := i) (by omega)
      have h2 := token_le (s := s) (i := i) (by omega)
      have h3 := com_ge h2
      have := tokF_len s f _ (com_le h2)
      simp only [List.length_cons]
      omega
end Go.Proofs.YtlliliddljkbfaaGreat.Sp
namespace Go.Proofs.YtlliliddljkbfaaGreat
set_option maxHeartbeats 64000000
set_option maxRecDepth 100000
open Go.RowKit Sp
theorem rbool {a b : Bool} (h : a = b) : Ending.returned (.bool a) = .returned (.bool b) := by rw [h]
theorem rint {k : IntKind} {a b : Int} (h : a = b) : Ending.returned (.int k a) = .returned (.int k b) := by rw [h]
theorem isBlank_c (c : Int) (w : World) : Calls Tryz.prog 175 #[.int .i64 c] w fun e w' => e = .returned (.bool (blankI c)) ∧ w' = w := by
  go_enter Tryz.func175, Tryz.ntmps175
  go_wp2
  all_goals
    go_ret
    exact ⟨rbool (by rw [Bool.eq_iff_iff]; simp [blankI, *] <;> omega), rfl⟩
theorem isDigit_c (c : Int) (w : World) : Calls Tryz.prog 241 #[.int .i64 c] w fun e w' => e = .returned (.bool (digI c)) ∧ w' = w := by
  go_enter Tryz.func241, Tryz.ntmps241
  go_wp2
  all_goals
    go_ret
    exact ⟨rbool (by rw [Bool.eq_iff_iff]; simp [digI, *] <;> omega), rfl⟩
theorem isLetter_c (c : Int) (w : World) : Calls Tryz.prog 243 #[.int .i64 c] w fun e w' => e = .returned (.bool (lettI c)) ∧ w' = w := by
  go_enter Tryz.func243, Tryz.ntmps243
  go_wp2
  all_goals
    go_ret
    exact ⟨rbool (by rw [Bool.eq_iff_iff]; simp [lettI, *] <;> omega), rfl⟩
theorem isSign_c (c : Int) (w : World) : Calls Tryz.prog 240 #[.int .i64 c] w fun e w' => e = .returned (.bool (signI c)) ∧ w' = w := by
  go_enter Tryz.func240, Tryz.ntmps240
  go_wp2
  all_goals
    go_ret
    exact ⟨rbool (by rw [Bool.eq_iff_iff]; simp [signI, *] <;> omega), rfl⟩
theorem isQuote_c (c : Int) (w : World) : Calls Tryz.prog 177 #[.int .i64 c] w fun e w' => e = .returned (.bool (quoteI c)) ∧ w' = w := by
  go_enter Tryz.func177, Tryz.ntmps177
  go_wp2
  all_goals
    go_ret
    exact ⟨rbool (by rw [Bool.eq_iff_iff]; simp [quoteI, *] <;> omega), rfl⟩
theorem isNameByte_c (c : Int) (w : World) : Calls Tryz.prog 237 #[.int .i64 c] w fun e w' => e = .returned (.bool (nameI c)) ∧ w' = w := by
  cases h1 : lettI c <;> cases h2 : digI c
  all_goals
    go_enter Tryz.func237, Tryz.ntmps237
    go_wp2_with (first | (go_at_call 243; refine (isLetter_c _ _).mono ?_; rintro e w' ⟨rfl, rfl⟩) | (go_at_call 241; refine (isDigit_c _ _).mono ?_; rintro e w' ⟨rfl, rfl⟩))
    go_ret
    exact ⟨rbool (by simp [nameI, h1, h2]), rfl⟩
theorem spoilsLink_c (c : Int) (w : World) : Calls Tryz.prog 291 #[.int .i64 c] w fun e w' => e = .returned (.bool (spoilI c)) ∧ w' = w := by
  cases h1 : quoteI c
  all_goals
    go_enter Tryz.func291, Tryz.ntmps291
    go_wp2_with (go_at_call 177; refine (isQuote_c _ _).mono ?_; rintro e w' ⟨rfl, rfl⟩)
    all_goals
      go_ret
      exact ⟨rbool (by rw [Bool.eq_iff_iff]; simp [spoilI, *] <;> omega), rfl⟩
theorem hexValue_c (c : Int) (w : World) (h0 : -1 ≤ c) (h9 : c ≤ 255) : Calls Tryz.prog 287 #[.int .i64 c] w fun e w' => e = .returned (.int .i64 (hexI c)) ∧ w' = w := by
  cases h1 : digI c
  all_goals
    go_enter Tryz.func287, Tryz.ntmps287
    go_wp2_with (go_at_call 241; refine (isDigit_c _ _).mono ?_; rintro e w' ⟨rfl, rfl⟩)
    all_goals
      go_ret
      exact ⟨rint (by simp [hexI, *] <;> omega), rfl⟩
end Go.Proofs.YtlliliddljkbfaaGreat
