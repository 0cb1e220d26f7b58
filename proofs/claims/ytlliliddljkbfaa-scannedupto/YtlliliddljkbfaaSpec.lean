/-
  What the document's scanner answers, as plain functions on bytes: nothing of the program stands here.
-/
namespace Go.Proofs.Ytlliliddljkbfaa.Sp

/-- The byte at a place; -1: there is none. -/
def pk (s : ByteArray) (i : Nat) : Int := if h : i < s.size then (s[i].toNat : Int) else -1
def blankI (c : Int) : Bool := c == 10 || c == 9 || c == 32
def digI (c : Int) : Bool := decide (48 ≤ c) && decide (c ≤ 57)
def lettI (c : Int) : Bool := (decide (97 ≤ c) && decide (c ≤ 122)) || (decide (65 ≤ c) && decide (c ≤ 90)) || c == 95 || decide (127 < c)
def nameI (c : Int) : Bool := lettI c || digI c || c == 45
def signI (c : Int) : Bool := c == 43 || c == 45
def quoteI (c : Int) : Bool := c == 34 || c == 39
def spoilI (c : Int) : Bool := quoteI c || c == 40 || c == 92 || decide (c < 32) || c == 127
def hexI (c : Int) : Int :=
  if digI c = true then c - 48 else if 97 ≤ c ∧ c ≤ 102 then c - 97 + 10 else if 65 ≤ c ∧ c ≤ 70 then c - 65 + 10 else -1

def one (s : ByteArray) (i : Nat) : ByteArray := s.extract i (i + 1)
def escB (s : ByteArray) (i : Nat) : Bool := pk s i == 92 && pk s (i + 1) != 10
def goesB (s : ByteArray) (i : Nat) : Bool := nameI (pk s i) || escB s i
def begB (s : ByteArray) (i : Nat) : Bool :=
  if pk s i = 45 then lettI (pk s (i + 1)) || pk s (i + 1) == 45 || escB s (i + 1) else lettI (pk s i) || escB s i

/-- Hex digits from a place on: at most so many; the number so far; the place. -/
def hexF (s : ByteArray) : Nat → Nat → Nat → Nat × Nat
  | 0, i, n => (n, i)
  | f + 1, i, n => if 0 ≤ hexI (pk s i) then hexF s f (i + 1) (n * 16 + (hexI (pk s i)).toNat) else (n, i)

def ques : ByteArray := ⟨#[63]⟩
def byte1 (n : Nat) : ByteArray := ⟨#[UInt8.ofNat n]⟩

/-- The escape at a place: what it stands for, the place behind it. -/
def esc (s : ByteArray) (i : Nat) : ByteArray × Nat :=
  let r := hexF s 6 (i + 1) 0
  if r.2 = i + 1 then (if i + 1 < s.size then (one s (i + 1), i + 2) else (ques, i + 1))
  else (if 1 ≤ r.1 ∧ r.1 ≤ 255 then byte1 r.1 else ques, if blankI (pk s r.2) = true then r.2 + 1 else r.2)

def nameF (s : ByteArray) : Nat → Nat → ByteArray → ByteArray × Nat
  | 0, i, acc => (acc, i)
  | f + 1, i, acc =>
    if nameI (pk s i) = true then nameF s f (i + 1) (acc ++ one s i)
    else if escB s i = true then nameF s f (esc s i).2 (acc ++ (esc s i).1)
    else (acc, i)
def name (s : ByteArray) (i : Nat) : ByteArray × Nat := nameF s s.size i ByteArray.empty

def blkF (s : ByteArray) : Nat → Nat → Nat
  | 0, i => i
  | f + 1, i => if blankI (pk s i) = true then blkF s f (i + 1) else i
def blk (s : ByteArray) (i : Nat) : Nat := blkF s s.size i

def digF (s : ByteArray) : Nat → Nat → Nat
  | 0, i => i
  | f + 1, i => if digI (pk s i) = true then digF s f (i + 1) else i
def dig (s : ByteArray) (i : Nat) : Nat := digF s s.size i

def sgn (s : ByteArray) (i : Nat) : Nat := if signI (pk s i) = true then i + 1 else i
def numB (s : ByteArray) (i : Nat) : Bool := digI (pk s (sgn s i)) || (pk s (sgn s i) == 46 && digI (pk s (sgn s i + 1)))
def expE (s : ByteArray) (k : Nat) : Nat :=
  if pk s k = 101 ∨ pk s k = 69 then (if digI (pk s (sgn s (k + 1))) = true then dig s (sgn s (k + 1)) else k) else k
def fracE (s : ByteArray) (k : Nat) : Nat := if pk s k = 46 ∧ digI (pk s (k + 1)) = true then dig s (k + 1) else k
def numE (s : ByteArray) (i : Nat) : Nat := expE s (fracE s (dig s (sgn s i)))

def starF (s : ByteArray) : Nat → Nat → Nat
  | 0, k => k
  | f + 1, k => if k < s.size ∧ ¬ (pk s k = 42 ∧ pk s (k + 1) = 47) then starF s f (k + 1) else k
def star (s : ByteArray) (k : Nat) : Nat := starF s s.size k
def comF (s : ByteArray) : Nat → Nat → Nat
  | 0, i => i
  | f + 1, i => if pk s i = 47 ∧ pk s (i + 1) = 42 then (if s.size ≤ star s (i + 2) then s.size else comF s f (star s (i + 2) + 2)) else i
def com (s : ByteArray) (i : Nat) : Nat := comF s s.size i

structure Tok where
  kind : Int
  word : ByteArray
  unit : ByteArray
def Tok.k (n : Int) : Tok := ⟨n, ByteArray.empty, ByteArray.empty⟩
def Tok.w (n : Int) (x : ByteArray) : Tok := ⟨n, x, ByteArray.empty⟩

def txtF (s : ByteArray) (q : Int) : Nat → Nat → ByteArray → Tok × Nat
  | 0, i, acc => (Tok.w 2 acc, i)
  | f + 1, i, acc =>
    if s.size ≤ i then (Tok.w 2 acc, i)
    else if pk s i = q then (Tok.w 2 acc, i + 1)
    else if pk s i = 10 then (Tok.k 3, i)
    else if pk s i = 92 then
      (if s.size ≤ i + 1 then txtF s q f (i + 1) acc
       else if pk s (i + 1) = 10 then txtF s q f (i + 2) acc
       else txtF s q f (esc s i).2 (acc ++ (esc s i).1))
    else txtF s q f (i + 1) (acc ++ one s i)
def txt (s : ByteArray) (q : Int) (i : Nat) : Tok × Nat := txtF s q s.size i ByteArray.empty

def badF (s : ByteArray) : Nat → Nat → Nat
  | 0, i => i
  | f + 1, i =>
    if s.size ≤ i then i
    else if pk s i = 41 then i + 1
    else if escB s i = true then badF s f (esc s i).2
    else badF s f (i + 1)
def bad (s : ByteArray) (i : Nat) : Nat := badF s s.size i

def linkF (s : ByteArray) : Nat → Nat → ByteArray → Tok × Nat
  | 0, i, acc => (Tok.w 12 acc, i)
  | f + 1, i, acc =>
    if s.size ≤ i then (Tok.w 12 acc, i)
    else if pk s i = 41 then (Tok.w 12 acc, i + 1)
    else if blankI (pk s i) = true then
      (if s.size ≤ blk s i then (Tok.w 12 acc, blk s i)
       else if pk s (blk s i) = 41 then (Tok.w 12 acc, blk s i + 1)
       else (Tok.k 13, bad s (blk s i)))
    else if escB s i = true then linkF s f (esc s i).2 (acc ++ (esc s i).1)
    else if spoilI (pk s i) = true then (Tok.k 13, bad s i)
    else linkF s f (i + 1) (acc ++ one s i)
def link (s : ByteArray) (i : Nat) : Tok × Nat := linkF s s.size i ByteArray.empty

def smallB (c : UInt8) : UInt8 := if 65 ≤ c ∧ c ≤ 90 then c + 32 else c
def small (s : ByteArray) : ByteArray := ⟨(s.data.toList.map smallB).toArray⟩
def url : ByteArray := ⟨#[117, 114, 108]⟩

def numeric (s : ByteArray) (i : Nat) : Tok × Nat :=
  let k := numE s i
  if pk s k = 37 then (Tok.w 6 (s.extract i k), k + 1)
  else if begB s k = true then (⟨7, s.extract i k, (name s k).1⟩, (name s k).2)
  else (Tok.w 5 (s.extract i k), k)

def named (s : ByteArray) (i : Nat) : Tok × Nat :=
  let r := name s i
  if pk s r.2 = 40 then
    (if small r.1 = url ∧ quoteI (pk s (blk s (r.2 + 1))) = false then link s (blk s (r.2 + 1))
     else (Tok.w 11 r.1, r.2 + 1))
  else (Tok.w 14 r.1, r.2)

def sees4 (s : ByteArray) (i : Nat) : Bool := pk s i == 60 && pk s (i + 1) == 33 && pk s (i + 2) == 45 && pk s (i + 3) == 45
def sees3 (s : ByteArray) (i : Nat) : Bool := pk s i == 45 && pk s (i + 1) == 45 && pk s (i + 2) == 62

def token (s : ByteArray) (i : Nat) : Tok × Nat :=
  if blankI (pk s i) = true then (Tok.k 1, blk s i)
  else if quoteI (pk s i) = true then txt s (pk s i) (i + 1)
  else if pk s i = 35 ∧ goesB s (i + 1) = true then (Tok.w 4 (name s (i + 1)).1, (name s (i + 1)).2)
  else if numB s i = true then numeric s i
  else if sees4 s i = true then (Tok.k 8, i + 4)
  else if sees3 s i = true then (Tok.k 9, i + 3)
  else if pk s i = 64 ∧ begB s (i + 1) = true then (Tok.w 10 (name s (i + 1)).1, (name s (i + 1)).2)
  else if begB s i = true then named s i
  else (Tok.w 15 (one s i), i + 1)

def tokF (s : ByteArray) : Nat → Nat → List Tok
  | 0, _ => []
  | f + 1, i => if s.size ≤ i then [] else (token s i).1 :: tokF s f (com s (token s i).2)
def toks (s : ByteArray) : List Tok := tokF s s.size (com s 0)

def clB (s : ByteArray) (i : Nat) : List UInt8 :=
  if h : i < s.size then
    (if s[i] = 13 ∧ pk s (i + 1) = 10 then [] else if s[i] = 13 ∨ s[i] = 12 then [10] else if s[i] = 0 then [63] else [s[i]])
  else []
def cleanTo (s : ByteArray) : Nat → List UInt8
  | 0 => []
  | k + 1 => cleanTo s k ++ clB s k
def clean (s : ByteArray) : ByteArray := ⟨(cleanTo s s.size).toArray⟩

/-- The document's answer of Tokens: the list; the error's number. -/
def answer (sheet : ByteArray) : List Tok × Int := if 600 < sheet.size then ([], 1) else (toks (clean sheet), 0)

end Go.Proofs.Ytlliliddljkbfaa.Sp
