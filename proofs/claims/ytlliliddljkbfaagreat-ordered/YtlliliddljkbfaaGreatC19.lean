import Derived.Test.YtlliliddljkbfaaGreatC3
import Derived.Test.YtlliliddljkbfaaGreatC5
import Derived.Test.YtlliliddljkbfaaGreatC6
import Derived.Test.YtlliliddljkbfaaGreatC7
import Derived.Test.YtlliliddljkbfaaGreatC9
namespace Go.Proofs.YtlliliddljkbfaaGreat.Sp
set_option maxHeartbeats 64000000
set_option maxRecDepth 100000
def cat : List ByteArray → ByteArray
  | [] => nob
  | a :: r => a ++ cat r
structure Rule where
  at_ : Option ByteArray
  head : List Nd
  body : Option (List Nd)
def cutN (stop : Nd → Bool) : List Nd → List Nd × Option Nd × List Nd
  | [] => ([], none, [])
  | n :: r => if stop n = true then ([], some n, r) else let x := cutN stop r; (n :: x.1, x.2)
def isSemi (n : Nd) : Bool := sgnN n (b1 59)
def isBody (n : Nd) : Bool := sgnN n (b1 123)
def bodyOf : Option Nd → Option (List Nd)
  | none => none
  | some b => if isBody b = true then some b.kids else none
def passN (sheet : Bool) (n : Nd) : Bool := blankN n || (sheet && (decide (n.t.kind = 8) || decide (n.t.kind = 9)))
def rulesF : Nat → Bool → List Nd → List Rule
  | 0, _, _ => []
  | _ + 1, _, [] => []
  | f + 1, sh, n :: r =>
    if passN sh n = true then rulesF f sh r
    else if n.t.kind = 10 then
      let c := cutN (fun m => isSemi m || isBody m) r
      ⟨some n.t.word, c.1, bodyOf c.2.1⟩ :: rulesF f sh c.2.2
    else
      let c := cutN isBody (n :: r)
      match c.2.1 with
      | none => []
      | some b => ⟨none, c.1, some b.kids⟩ :: rulesF f sh c.2.2
def rules (sh : Bool) (l : List Nd) : List Rule := rulesF l.length sh l
structure Dec where
  prop : ByteArray
  val : List Nd
  imp : Bool
def custom (p : ByteArray) : Bool := decide (pk p 0 = 45) && decide (pk p 1 = 45)
def propOf (w : ByteArray) : ByteArray := if custom w = true then w else small w
def nImportant : ByteArray := ⟨#[105, 109, 112, 111, 114, 116, 97, 110, 116]⟩
def wordN (n : Nd) (w : ByteArray) : Bool := decide (n.t.kind = 14) && decide (small n.t.word = w)
def cutImp (v : List Nd) : List Nd × Bool :=
  match v.getLast? with
  | none => (v, false)
  | some x =>
    if wordN x nImportant = true then
      (match (bare v.dropLast).getLast? with
       | none => (v, false)
       | some y => if sgnN y (b1 33) = true then (bare (bare v.dropLast).dropLast, true) else (v, false))
    else (v, false)
def declOf (l : List Nd) : Option Dec :=
  match l with
  | [] => none
  | n :: r =>
    if n.t.kind ≠ 14 then none
    else match bare r with
      | [] => none
      | c :: q => if sgnN c (b1 58) = true then some ⟨propOf n.t.word, (cutImp (bare q)).1, (cutImp (bare q)).2⟩ else none
def declsF : Nat → List Nd → List Dec
  | 0, _ => []
  | _ + 1, [] => []
  | f + 1, n :: r =>
    if blankN n || isSemi n then declsF f r
    else if n.t.kind = 10 then declsF f (cutN (fun m => isSemi m || isBody m) r).2.2
    else
      let c := cutN isSemi (n :: r)
      match declOf c.1 with
      | none => declsF f c.2.2
      | some d => d :: declsF f c.2.2
def decls (l : List Nd) : List Dec := declsF l.length l
def hexD (n : Nat) : UInt8 := if n < 10 then UInt8.ofNat (48 + n) else UInt8.ofNat (87 + n)
def escO (c : UInt8) : ByteArray := ⟨#[92, hexD (c.toNat / 16), hexD (c.toNat % 16), 32]⟩
def plainL (c : UInt8) : Bool := (decide (97 ≤ c.toNat) && decide (c.toNat ≤ 122)) || (decide (65 ≤ c.toNat) && decide (c.toNat ≤ 90))
def plainD (c : UInt8) : Bool := decide (48 ≤ c.toNat) && decide (c.toNat ≤ 57)
def plainN (w : ByteArray) (i : Nat) (c : UInt8) : Bool :=
  if plainD c = true then !(i == 0 || (i == 1 && pk w 0 == 45))
  else if c = 45 then !(w.size == 1)
  else plainL c || c == 95
def outF (ok : Nat → UInt8 → Bool) : Nat → List UInt8 → ByteArray
  | _, [] => nob
  | i, c :: r => (if ok i c = true then b1 c else escO c) ++ outF ok (i + 1) r
def nameO (w : ByteArray) : ByteArray := outF (plainN w) 0 w.data.toList
def unitO (w : ByteArray) : ByteArray := outF (fun i c => plainN w i c && !(i == 0 && (c == 101 || c == 69))) 0 w.data.toList
def plainT (c : UInt8) : Bool := decide (32 ≤ c.toNat) && decide (c.toNat ≤ 126) && !(c == 34 || c == 92 || c == 60 || c == 62)
def quoO : ByteArray := b1 34
def textO (w : ByteArray) : ByteArray := quoO ++ (outF (fun _ c => plainT c) 0 w.data.toList ++ quoO)
def plainK (c : UInt8) : Bool := plainL c || plainD c || c == 46 || c == 47 || c == 58 || c == 45
def urlO : ByteArray := ⟨#[117, 114, 108, 40]⟩
def linkO (w : ByteArray) : ByteArray := urlO ++ (outF (fun _ c => plainK c) 0 w.data.toList ++ b1 41)
def openO : ByteArray := ⟨#[60, 33, 45, 45]⟩
def closeO : ByteArray := ⟨#[45, 45, 62]⟩
def badTO : ByteArray := ⟨#[34, 10]⟩
def badLO : ByteArray := ⟨#[117, 114, 108, 40, 40, 41]⟩
def midO : ByteArray := ⟨#[47, 42, 42, 47]⟩
def softW (w : ByteArray) : Bool := decide (w = b1 44) || decide (w = b1 58) || decide (w = b1 59) || decide (w = b1 41) || decide (w = b1 93) || decide (w = b1 125)
def softT (t : Tok) : Bool := decide (t.kind = 1) || (decide (t.kind = 15) && softW t.word)
def parts (a b : Tok) : Bool := !softT a && !softT b && decide (closing a = nob) && !signT b (b1 91) && !signT b (b1 123)
def oneO (t : Tok) (inn : ByteArray) : ByteArray :=
  if t.kind = 1 then b1 32
  else if t.kind = 2 then textO t.word
  else if t.kind = 3 then badTO
  else if t.kind = 4 then b1 35 ++ nameO t.word
  else if t.kind = 6 then t.word ++ b1 37
  else if t.kind = 7 then t.word ++ unitO t.unit
  else if t.kind = 8 then openO
  else if t.kind = 9 then closeO
  else if t.kind = 10 then b1 64 ++ nameO t.word
  else if t.kind = 11 then nameO t.word ++ (b1 40 ++ (inn ++ b1 41))
  else if t.kind = 12 then linkO t.word
  else if t.kind = 13 then badLO
  else if t.kind = 14 then nameO t.word
  else if t.kind = 15 then t.word ++ (inn ++ closing t)
  else t.word
def gapO (a : Option Tok) (b : Tok) : ByteArray := match a with | none => nob | some a => if parts a b = true then midO else nob
def twoB (a : Option Tok) (b : Tok) : Bool := match a with | none => false | some a => decide (a.kind = 1) && decide (b.kind = 1)
mutual
def writN : Nd → ByteArray
  | .mk t k => oneO t (writF none k)
def writF : Option Tok → List Nd → ByteArray
  | _, [] => nob
  | a, n :: r => (if twoB a n.t = true then nob else gapO a n.t ++ writN n) ++ writF (some n.t) r
end
def written (l : List Nd) : ByteArray := writF none l
structure Wt where
  a : Nat
  b : Nat
  c : Nat
def Wt.zero : Wt := ⟨0, 0, 0⟩
def Wt.add (x y : Wt) : Wt := ⟨x.a + y.a, x.b + y.b, x.c + y.c⟩
def Wt.less (x y : Wt) : Bool := if x.a ≠ y.a then decide (x.a < y.a) else if x.b ≠ y.b then decide (x.b < y.b) else decide (x.c < y.c)
def Wt.most (x y : Wt) : Wt := if x.less y = true then y else x
mutual
def wtS : Simple → Wt
  | .mk kind name _ _ list _ =>
    if kind = 35 then ⟨1, 0, 0⟩
    else if kind = 116 then (if name = nob then Wt.zero else ⟨0, 0, 1⟩)
    else if kind = 58 ∧ (name = nNot ∨ name = nIs) then wtL Wt.zero list
    else ⟨0, 1, 0⟩
def wtA : List Simple → Wt
  | [] => Wt.zero
  | s :: r => (wtS s).add (wtA r)
def wtT : Nat × List Simple → Wt
  | (_, all) => wtA all
def wtC : List (Nat × List Simple) → Wt
  | [] => Wt.zero
  | t :: r => (wtT t).add (wtC r)
def wtL : Wt → List (List (Nat × List Simple)) → Wt
  | best, [] => best
  | best, c :: r => wtL (best.most (wtC c)) r
end
abbrev SRule := Sels × List Dec
def styleOf (r : Rule) : Option SRule :=
  match r.at_, r.body with
  | none, some b => (sels r.head).map (fun s => (s, decls b))
  | _, _ => none
def stylesOf (l : List Nd) : List SRule := (rules true l).filterMap styleOf
def fitsW (p : Page) (e : Nat) : Option Wt → Sels → Option Wt
  | w, [] => w
  | w, c :: r => fitsW p e (if onC p c none e = true then (match w with | none => some (wtC c) | some x => some (x.most (wtC c))) else w) r
structure Win where
  imp : Bool
  wt : Wt
  val : List Nd
def beats (d : Dec) (w : Wt) : Option Win → Bool
  | none => true
  | some b => if d.imp ≠ b.imp then d.imp else !(w.less b.wt)
def winD (q : ByteArray) (w : Wt) : Option Win → List Dec → Option Win
  | best, [] => best
  | best, d :: r => winD q w (if decide (d.prop = q) && beats d w best then some ⟨d.imp, w, d.val⟩ else best) r
def winF (p : Page) (e : Nat) (q : ByteArray) : Option Win → List SRule → Option Win
  | best, [] => best
  | best, r :: rs => winF p e q (match fitsW p e none r.1 with | none => best | some w => winD q w best r.2) rs
def winner (p : Page) (rs : List SRule) (e : Nat) (q : ByteArray) : Option Win := winF p e q none rs
def nVar : ByteArray := ⟨#[118, 97, 114]⟩
def nInherit : ByteArray := ⟨#[105, 110, 104, 101, 114, 105, 116]⟩
def nUnset : ByteArray := ⟨#[117, 110, 115, 101, 116]⟩
def nInitial : ByteArray := ⟨#[105, 110, 105, 116, 105, 97, 108]⟩
def nColor : ByteArray := ⟨#[99, 111, 108, 111, 114]⟩
def nFont : ByteArray := ⟨#[102, 111, 110, 116, 45, 115, 105, 122, 101]⟩
def nQuotes : ByteArray := ⟨#[113, 117, 111, 116, 101, 115]⟩
def isWord (v : List Nd) (w : ByteArray) : Bool := match v with | [n] => wordN n w | _ => false
mutual
def anyN (g : Tok → Bool) : Nd → Bool
  | .mk t k => g t || anyL g k
def anyL (g : Tok → Bool) : List Nd → Bool
  | [] => false
  | n :: r => anyN g n || anyL g r
end
def badT (t : Tok) : Bool := decide (t.kind = 3) || decide (t.kind = 13)
def varT (t : Tok) : Bool := decide (t.kind = 11) && decide (small t.word = nVar)
def varOf (k : List Nd) : Option (ByteArray × Option (List Nd)) :=
  match dropB k with
  | [] => none
  | n :: r =>
    if n.t.kind = 14 ∧ custom n.t.word = true then
      (match dropB r with
       | [] => some (n.t.word, none)
       | c :: q => if sgnN c (b1 44) = true then some (n.t.word, some (bare q)) else none)
    else none
mutual
def namesN : Nd → List ByteArray
  | .mk t k => (if varT t = true then (match varOf k with | some (w, _) => [w] | none => []) else []) ++ namesL k
def namesL : List Nd → List ByteArray
  | [] => []
  | n :: r => namesN n ++ namesL r
end
def handed (q : ByteArray) : Bool := custom q || decide (q = nColor) || decide (q = nFont) || decide (q = nQuotes)
def addTo : List ByteArray → List ByteArray → List ByteArray
  | met, [] => met
  | met, n :: r => addTo (if met.contains n = true then met else met ++ [n]) r
def turnsF (nb : ByteArray → List ByteArray) (q : ByteArray) : Nat → Nat → List ByteArray → Bool
  | 0, _, _ => false
  | f + 1, i, met => match met[i]? with
    | none => false
    | some n => if n = q then true else turnsF nb q f (i + 1) (addTo met (nb n))
def rawN (s : ByteArray) : Nd := .mk (Tok.w 99 s) []
def mapO (h : Nd → Option Nd) : List Nd → Option (List Nd)
  | [] => some []
  | n :: r => match h n with | none => none | some m => (mapO h r).map (fun x => m :: x)
def expN (g : ByteArray → ByteArray) : Nat → Nd → Option Nd
  | 0, n => some (.mk n.t [])
  | f + 1, n =>
    if varT n.t = true then
      (match varOf n.kids with
       | none => none
       | some (w, fb) =>
         if g w ≠ nob then some (rawN (g w))
         else match fb with
           | none => none
           | some b => (mapO (expN g f) b).map (fun x => rawN (written x)))
    else (mapO (expN g f) n.kids).map (fun k => .mk n.t k)
def expL (g : ByteArray → ByteArray) (l : List Nd) : Option (List Nd) := mapO (expN g (depth l)) l
section
variable (p : Page) (rs : List SRule)
def namedBy (e : Nat) (q : ByteArray) : List ByteArray := match winner p rs e q with | none => [] | some w => namesL w.val
def allNames : List ByteArray := rs.flatMap (fun r => r.2.flatMap (fun d => namesL d.val))
def turns (e : Nat) (q : ByteArray) : Bool := turnsF (namedBy p rs e) q (2 * (allNames rs).length + 1) 0 (namedBy p rs e q)
def comesW (rec : Nat → ByteArray → ByteArray) (e : Nat) (q : ByteArray) : ByteArray :=
  let par := if parentOf p e < 0 then nob else rec (parentOf p e).toNat q
  let down := if handed q = true then par else nob
  match winner p rs e q with
  | none => down
  | some w =>
    if isWord w.val nInherit = true then par
    else if isWord w.val nInitial = true then nob
    else if isWord w.val nUnset || anyL badT w.val then down
    else if anyL varT w.val = false then written w.val
    else if custom q && turns p rs e q then nob
    else match expL (rec e) w.val with
      | none => down
      | some l => if (written l).size ≤ 400 then written l else down
def comesF : Nat → Nat → ByteArray → ByteArray
  | 0, _, _ => nob
  | f + 1, e, q => comesW p rs (comesF f) e q
def comes (e : Nat) (q : ByteArray) : ByteArray := comesF p rs ((e + 1) * ((allNames rs).length + 2)) e q
end
def sheetN (s : ByteArray) : List Nd := nodes (toks (clean s))
def computedA (p : Page) (sheets : List ByteArray) (e : Int) (q : ByteArray) : ByteArray × Int :=
  if ¬ (pageP p = true ∧ 0 ≤ e ∧ e < p.length) then (nob, 4)
  else if 4 < sheets.length ∨ 100 < q.size ∨ sheets.any (fun s => decide (600 < s.size)) = true then (nob, 1)
  else if sheets.any (fun s => decide (8 < depth (sheetN s))) = true then (nob, 2)
  else (comes p (sheets.flatMap (fun s => stylesOf (sheetN s))) e.toNat (propOf q), 0)
structure Policy where
  root : ByteArray
  props : List ByteArray
  funs : List ByteArray
  ats : List ByteArray
  cust : Bool
  texts : Bool
def lowB (c : UInt8) : Bool := decide (97 ≤ c.toNat) && decide (c.toNat ≤ 122)
def polName (s : ByteArray) : Bool := s.data.toList.all (fun c => lowB c || c == 45) && decide (1 ≤ s.size) && decide (s.size ≤ 30)
def polP (p : Policy) : Bool :=
  p.root.data.toList.all lowB && decide (p.root.size ≤ 12) &&
  (decide (p.props.length ≤ 20) && p.props.all (fun s => polName s && !(pk s 0 == 45))) &&
  (decide (p.funs.length ≤ 20) && p.funs.all polName) && (decide (p.ats.length ≤ 20) && p.ats.all polName)
def okSignW (w : ByteArray) : Bool := decide (w = b1 43) || decide (w = b1 45) || decide (w = b1 42) || decide (w = b1 47) || decide (w = b1 46) || decide (w = b1 44) || decide (w = b1 37) || decide (w = b1 61) || decide (w = b1 58)
def harmT (p : Policy) (t : Tok) : Bool :=
  if t.kind = 3 ∨ t.kind = 12 ∨ t.kind = 13 ∨ t.kind = 10 ∨ t.kind = 8 ∨ t.kind = 9 then false
  else if t.kind = 15 then !decide (closing t = nob) || okSignW t.word
  else if t.kind = 2 then p.texts
  else if t.kind = 11 then p.funs.contains (small t.word)
  else true
def harmL (p : Policy) (l : List Nd) : Bool := !anyL (fun t => !harmT p t) l
def decO (n : Nat) : ByteArray := ⟨((Nat.toDigits 10 n).map (fun c => UInt8.ofNat c.toNat)).toArray⟩
def combO (b : Nat) : ByteArray := if b = 32 then b1 32 else if b = 62 ∨ b = 43 ∨ b = 126 then b1 32 ++ (b1 (UInt8.ofNat b) ++ b1 32) else nob
def attrO (name how value : ByteArray) : ByteArray := if how = nob then b1 91 ++ (nameO name ++ b1 93) else b1 91 ++ (nameO name ++ (how ++ (textO value ++ b1 93)))
mutual
def simO : Simple → ByteArray
  | .mk kind name how value list place =>
    if kind = 116 then (if name = nob then b1 42 else nameO name)
    else if kind = 35 then b1 35 ++ nameO name
    else if kind = 46 then b1 46 ++ nameO name
    else if kind = 91 then attrO name how value
    else if name = nNot ∨ name = nIs then b1 58 ++ (name ++ (b1 40 ++ (listO nob list ++ b1 41)))
    else if name = nNth then b1 58 ++ (name ++ (b1 40 ++ ((if place = 0 then nOdd else if place = 1 then nEven else decO (place - 2)) ++ b1 41)))
    else b1 58 ++ name
def allO : List Simple → ByteArray
  | [] => nob
  | s :: r => simO s ++ allO r
def stpO : Nat × List Simple → ByteArray
  | (b, all) => combO b ++ allO all
def cpxO : List (Nat × List Simple) → ByteArray
  | [] => nob
  | t :: r => stpO t ++ cpxO r
def listO (ahead : ByteArray) : List (List (Nat × List Simple)) → ByteArray
  | [] => nob
  | c :: r => ahead ++ (cpxO c ++ tailO ahead r)
def tailO (ahead : ByteArray) : List (List (Nat × List Simple)) → ByteArray
  | [] => nob
  | c :: r => b1 44 ++ (ahead ++ (cpxO c ++ tailO ahead r))
end
def impO : ByteArray := ⟨#[33, 105, 109, 112, 111, 114, 116, 97, 110, 116]⟩
def decK (p : Policy) (d : Dec) : Bool := (if custom d.prop = true then p.cust else p.props.contains d.prop) && harmL p d.val && !d.val.isEmpty
def decT (d : Dec) : ByteArray := nameO d.prop ++ (b1 58 ++ (written d.val ++ (if d.imp = true then impO else nob)))
def joinO (sep : ByteArray) : List ByteArray → ByteArray
  | [] => nob
  | [a] => a
  | a :: b :: r => a ++ (sep ++ joinO sep (b :: r))
def bodyO (p : Policy) (l : List Nd) : ByteArray := joinO (b1 59) (((decls l).filter (decK p)).map decT)
def aheadO (p : Policy) : ByteArray := if p.root = nob then nob else b1 46 ++ (p.root ++ b1 32)
def styleO (p : Policy) (r : Rule) (b : List Nd) : ByteArray :=
  match sels r.head with
  | none => nob
  | some s => if bodyO p b = nob then nob else listO (aheadO p) s ++ (b1 123 ++ (bodyO p b ++ b1 125))
def headO (h : List Nd) : ByteArray := if h = [] then nob else b1 32 ++ written h
def ruleO (p : Policy) (rec : List Nd → ByteArray) (r : Rule) : ByteArray :=
  match r.at_, r.body with
  | some w, some b =>
    if p.ats.contains (small w) = true ∧ harmL p (bare r.head) = true then
      (if rec b = nob then nob else b1 64 ++ (nameO (small w) ++ (headO (bare r.head) ++ (b1 123 ++ (rec b ++ b1 125)))))
    else nob
  | none, some b => styleO p r b
  | _, none => nob
def rinF (p : Policy) : Nat → Bool → List Nd → ByteArray
  | 0, sh, l => cat ((rules sh l).map (ruleO p (fun _ => nob)))
  | f + 1, sh, l => cat ((rules sh l).map (ruleO p (rinF p f false)))
def rinseA (s : ByteArray) (p : Policy) : ByteArray × Int :=
  if polP p = false then (nob, 5)
  else if 600 < s.size then (nob, 1)
  else if 8 < depth (sheetN s) then (nob, 2)
  else (rinF p (depth (sheetN s)) true (sheetN s), 0)
end Go.Proofs.YtlliliddljkbfaaGreat.Sp
namespace Go.Proofs.YtlliliddljkbfaaGreat
set_option maxHeartbeats 64000000
set_option maxRecDepth 100000
open Go.RowKit Sp
def wlI (c : Int) : Bool := (decide (97 ≤ c) && decide (c ≤ 122)) || (decide (65 ≤ c) && decide (c ≤ 90))
def wdI (c : Int) : Bool := decide (48 ≤ c) && decide (c ≤ 57)
def wtI (c : Int) : Bool := decide (32 ≤ c) && decide (c ≤ 126) && !(c == 34 || c == 92 || c == 60 || c == 62)
def wkI (c : Int) : Bool := wlI c || wdI c || c == 46 || c == 47 || c == 58 || c == 45
theorem byteI (c : UInt8) (n : Nat) (hn : n < 256) : (c == UInt8.ofNat n) = ((c.toNat : Int) == (n : Int)) := by
  rw [Bool.eq_iff_iff]
  simp
  constructor
  · rintro rfl; simp; omega
  · intro h
    apply UInt8.toNat_inj.1
    have : c.toNat = n := by omega
    rw [this]; simp; omega
theorem wlI_b (c : UInt8) : wlI (c.toNat : Int) = plainL c := by
  unfold wlI plainL
  rw [Bool.eq_iff_iff]; simp; omega
theorem wdI_b (c : UInt8) : wdI (c.toNat : Int) = plainD c := by
  unfold wdI plainD
  rw [Bool.eq_iff_iff]; simp; omega
theorem wtI_b (c : UInt8) : wtI (c.toNat : Int) = plainT c := by
  unfold wtI plainT
  rw [show (c == 34) = ((c.toNat : Int) == 34) from byteI c 34 (by omega), show (c == 92) = ((c.toNat : Int) == 92) from byteI c 92 (by omega), show (c == 60) = ((c.toNat : Int) == 60) from byteI c 60 (by omega), show (c == 62) = ((c.toNat : Int) == 62) from byteI c 62 (by omega)]
  rw [Bool.eq_iff_iff]; simp; omega
theorem wkI_b (c : UInt8) : wkI (c.toNat : Int) = plainK c := by
  unfold wkI plainK
  rw [wlI_b, wdI_b, show (c == 46) = ((c.toNat : Int) == 46) from byteI c 46 (by omega), show (c == 47) = ((c.toNat : Int) == 47) from byteI c 47 (by omega), show (c == 58) = ((c.toNat : Int) == 58) from byteI c 58 (by omega), show (c == 45) = ((c.toNat : Int) == 45) from byteI c 45 (by omega)]
theorem wLetter_c (c : Int) (w : World) : Calls Tryz.prog 294 #[.int .u8 c] w fun e w' => e = .returned (.bool (wlI c)) ∧ w' = w := by
  go_enter Tryz.func294, Tryz.ntmps294
  go_wp2
  all_goals
    go_ret
    exact ⟨rbool (by rw [Bool.eq_iff_iff]; simp [wlI, *] <;> omega), rfl⟩
theorem wDigit_c (c : Int) (w : World) : Calls Tryz.prog 295 #[.int .u8 c] w fun e w' => e = .returned (.bool (wdI c)) ∧ w' = w := by
  go_enter Tryz.func295, Tryz.ntmps295
  go_wp2
  all_goals
    go_ret
    exact ⟨rbool (by rw [Bool.eq_iff_iff]; simp [wdI, *] <;> omega), rfl⟩
theorem plainText_c (c : Int) (w : World) : Calls Tryz.prog 278 #[.int .u8 c] w fun e w' => e = .returned (.bool (wtI c)) ∧ w' = w := by
  go_enter Tryz.func278, Tryz.ntmps278
  go_wp2
  all_goals
    go_ret
    exact ⟨rbool (by rw [Bool.eq_iff_iff]; simp [wtI, *] <;> omega), rfl⟩
theorem plainLink_c (c : Int) (w : World) : Calls Tryz.prog 281 #[.int .u8 c] w fun e w' => e = .returned (.bool (wkI c)) ∧ w' = w := by
  cases h1 : wlI c <;> cases h2 : wdI c
  all_goals
    go_enter Tryz.func281, Tryz.ntmps281
    go_wp2_with (first | (go_at_call 294; refine (wLetter_c _ _).mono ?_; rintro e w' ⟨rfl, rfl⟩) | (go_at_call 295; refine (wDigit_c _ _).mono ?_; rintro e w' ⟨rfl, rfl⟩))
    all_goals
      go_ret
      exact ⟨rbool (by rw [Bool.eq_iff_iff]; simp [wkI, *]), rfl⟩
def hexT : ByteArray := ⟨#[48, 49, 50, 51, 52, 53, 54, 55, 56, 57, 97, 98, 99, 100, 101, 102]⟩
theorem hex_one : ∀ n : Nat, n < 16 → hexT.extract n (n + 1) = b1 (hexD n) := by decide
theorem slice_hex (n : Nat) (h : n < 16) (w : World) : (Instr.slice 9 (.string ⟨#[48, 49, 50, 51, 52, 53, 54, 55, 56, 57, 97, 98, 99, 100, 101, 102]⟩) (some (.int .u8 (n : Int))) (some (.int .u8 ((n : Int) + 1))) none).run Tryz.prog w = .ok (.string (b1 (hexD n))) w := by
  rw [run_slice_string_if w 9 _ .u8 .u8 _ _ Tryz.underlying9, if_pos ⟨by omega, by show (n : Int) + 1 ≤ ((16 : Nat) : Int); omega⟩, if_pos ⟨by omega, by omega⟩]
  have := hex_one n h
  unfold hexT at this
  rw [show ((n : Int) + 1).toNat = n + 1 by omega, show ((n : Int)).toNat = n by omega, this]
theorem row4 (w : World) (a b c d : ByteArray) : (w.alloc (.cells #[.string a, .string b, .string c, .string d] 9)).ownsRow w.heap.size 9 1 (.slice (some ⟨w.heap.size, 0, none⟩) 4 4) 4 ([a, b, c, d].map Value.string) :=
  ⟨rfl, .inr ⟨w.heap.size, 4, _, rfl, Nat.le_refl _, heap_alloc_new w _, Nat.le_refl _, by unfold maxLen; omega, rfl, rfl⟩⟩
theorem row3 (w : World) (a b c : ByteArray) : (w.alloc (.cells #[.string a, .string b, .string c] 9)).ownsRow w.heap.size 9 1 (.slice (some ⟨w.heap.size, 0, none⟩) 3 3) 3 ([a, b, c].map Value.string) :=
  ⟨rfl, .inr ⟨w.heap.size, 3, _, rfl, Nat.le_refl _, heap_alloc_new w _, Nat.le_refl _, by unfold maxLen; omega, rfl, rfl⟩⟩
theorem wrap_u8s (n : Nat) (h : n < 16) : IntKind.u8.wrap ((n : Int) + 1) = (n : Int) + 1 := by rw [IntKind.wrap_u8]; omega
theorem wEscape_c (c : UInt8) (w : World) : Calls Tryz.prog 293 #[.int .u8 (c.toNat : Int)] w fun e w' => e = .returned (.string (escO c)) ∧ Below w.heap.size w w' := by
  have hc : c.toNat < 256 := c.toNat_lt
  obtain ⟨h, Hh⟩ : ∃ h, Hid (c.toNat / 16 = h) := ⟨_, hid rfl⟩
  obtain ⟨l, Hl⟩ : ∃ l, Hid (c.toNat % 16 = l) := ⟨_, hid rfl⟩
  have hh : h < 16 := by have := Hh.out; omega
  have hl : l < 16 := by have := Hl.out; omega
  have HE : Hid (escO c = joinB [⟨#[92]⟩, b1 (hexD h), b1 (hexD l), ⟨#[32]⟩]) := by show _ = _; unfold escO; rw [Hh.out, Hl.out]; rfl
  have e1 : IntKind.u8.wrap ((c.toNat : Int) / 16) = (h : Int) := by have := Hh.out; rw [IntKind.wrap_u8]; omega
  have e2 : IntKind.u8.wrap ((c.toNat : Int) % 16) = (l : Int) := by have := Hl.out; rw [IntKind.wrap_u8]; omega
  have e3 : ((c.toNat : Int) / 16) = (h : Int) := by have := Hh.out; omega
  have e4 : ((c.toNat : Int) % 16) = (l : Int) := by have := Hl.out; omega
  have e5 := wrap_u8s h hh
  have e6 := wrap_u8s l hl
  have s1 := slice_hex h hh
  have s2 := slice_hex l hl
  go_enter Tryz.func293, Tryz.ntmps293
  go_wp2_with fail
  refine wp_region_any (by kernel_rfl) ?_
  change wpAny _ _ _ _ _ _ _ (World.drew _)
  refine tkA 0 ?_
  refine tkA 1 ?_
  refine tkA 2 ?_
  refine tkA 3 ?_
  refine tkA 4 ?_
  refine tkA 5 ?_
  refine tkA 6 ?_
  refine tkA 7 ?_
  refine brA 8 fun K hK => ?_
  go_simp
  refine hK _ _ ?_; clear hK K
  refine brA 9 fun K hK => ?_
  go_simp
  have B1 : Hid (Below w.heap.size w ((w.alloc (.cells #[.string ⟨#[92]⟩, .string (b1 (hexD h)), .string (b1 (hexD l)), .string ⟨#[32]⟩] 9)).drew)) := ((Below.refl _ _).alloc (Nat.le_refl _) _).drew
  have R1 : Hid (World.ownsRow ((w.alloc (.cells #[.string ⟨#[92]⟩, .string (b1 (hexD h)), .string (b1 (hexD l)), .string ⟨#[32]⟩] 9)).drew) w.heap.size 9 1 (.slice (some ⟨w.heap.size, 0, none⟩) 4 4) 4 ([⟨#[92]⟩, b1 (hexD h), b1 (hexD l), ⟨#[32]⟩].map Value.string)) := row4 w ⟨#[92]⟩ (b1 (hexD h)) (b1 (hexD l)) ⟨#[32]⟩
  generalize (w.alloc (.cells #[.string ⟨#[92]⟩, .string (b1 (hexD h)), .string (b1 (hexD l)), .string ⟨#[32]⟩] 9)).drew = w2 at *
  have hs2 := B1.out.size
  refine (Join_c [⟨#[92]⟩, b1 (hexD h), b1 (hexD l), ⟨#[32]⟩] w.heap.size _ _ R1.out (by simp) (by show 1 + (1 + (1 + (1 + 0))) ≤ _; omega)).mono ?_
  rw [← HE.out]
  rintro e w5 ⟨rfl, hb5⟩
  have B5 : Hid (Below w.heap.size w w5) := B1.out.trans (hb5.mono hs2)
  clear hb5
  refine hK _ _ ?_; clear hK K
  refine brA 10 fun K hK => ?_
  go_simp
  refine hK _ _ ?_; clear hK K
  refine wpAny_done (by kernel_rfl) ?_ _
  go_wp2_with fail
  go_ret
  exact ⟨rfl, B5.out⟩
end Go.Proofs.YtlliliddljkbfaaGreat
namespace Go.Proofs.YtlliliddljkbfaaGreat.Sp
set_option maxHeartbeats 64000000
set_option maxRecDepth 100000
abbrev Stack := List (Tok × List Nd)
def fin : Stack → List Tok → List Nd
  | [], _ => []
  | [(_, ins)], ts => ins ++ (kids nob ts).1
  | (t, ins) :: (t2, ins2) :: R, ts => fin ((t2, ins2 ++ [.mk t (ins ++ (kids (closing t) ts).1)]) :: R) (kids (closing t) ts).2
termination_by s => s.length
def dst : Stack → Nat
  | [] => 0
  | (_, ins) :: R => max (R.length + depth ins) (dst R)
def OpensS : Stack → Prop
  | [] => False
  | [(t, _)] => closing t = nob
  | (t, _) :: r :: R => closing t ≠ nob ∧ OpensS (r :: R)
theorem fin_one (t : Tok) (ins : List Nd) (ts : List Tok) : fin [(t, ins)] ts = ins ++ (kids nob ts).1 := by unfold fin; rfl
theorem fin_two (t t2 : Tok) (ins ins2 : List Nd) (R : Stack) (ts : List Tok) : fin ((t, ins) :: (t2, ins2) :: R) ts = fin ((t2, ins2 ++ [.mk t (ins ++ (kids (closing t) ts).1)]) :: R) (kids (closing t) ts).2 := by
  conv => lhs; unfold fin
theorem closing_cases (t : Tok) : closing t = nob ∨ closing t = b1 41 ∨ closing t = b1 93 ∨ closing t = b1 125 := by
  unfold closing
  repeat' split
  all_goals simp
theorem sign_closes {t t0 : Tok} (h : signT t (closing t0) = true) (h0 : closing t0 ≠ nob) : closing t = nob := by
  unfold signT at h
  simp at h
  obtain ⟨h1, h2⟩ := h
  unfold closing
  rw [if_neg (by omega), if_pos h1, h2]
  rcases closing_cases t0 with e | e | e | e
  · exact absurd e h0
  all_goals rw [e]; decide
theorem fin_open {t : Tok} (h : closing t ≠ nob) (t0 : Tok) (ins : List Nd) (R : Stack) (r : List Tok) (hO : OpensS ((t0, ins) :: R)) : fin ((t, []) :: (t0, ins) :: R) r = fin ((t0, ins) :: R) (t :: r) := by
  have hi : inside t r = kids (closing t) r := by unfold inside; rw [if_neg h]
  rw [fin_two]
  have hne : ¬ (closing t0 ≠ nob ∧ signT t (closing t0) = true) := fun q => h (sign_closes q.2 q.1)
  cases R with
  | nil =>
    rw [fin_one, fin_one, kids_cons (fun q => q.1 rfl), hi]
    simp
  | cons x R =>
    obtain ⟨t2, ins2⟩ := x
    rw [fin_two, fin_two, kids_cons hne, hi]
    simp
theorem fin_close {t t0 : Tok} (ins : List Nd) (t2 : Tok) (ins2 : List Nd) (R : Stack) (r : List Tok) (h : signT t (closing t0) = true) (h0 : closing t0 ≠ nob) : fin ((t0, ins) :: (t2, ins2) :: R) (t :: r) = fin ((t2, ins2 ++ [.mk t0 ins]) :: R) r := by
  rw [fin_two, kids_end ⟨h0, h⟩]
  simp
theorem fin_leaf {t : Tok} (h : closing t = nob) (t0 : Tok) (ins : List Nd) (R : Stack) (r : List Tok) (hn : ¬ (closing t0 ≠ nob ∧ signT t (closing t0) = true)) : fin ((t0, ins ++ [.mk t []]) :: R) r = fin ((t0, ins) :: R) (t :: r) := by
  have hi : inside t r = ([], r) := by unfold inside; rw [if_pos h]
  cases R with
  | nil =>
    rw [fin_one, fin_one, kids_cons (fun q => q.1 rfl), hi]
    simp
  | cons x R =>
    obtain ⟨t2, ins2⟩ := x
    rw [fin_two, fin_two, kids_cons hn, hi]
    simp
theorem fin_end (t0 : Tok) (ins : List Nd) (t2 : Tok) (ins2 : List Nd) (R : Stack) : fin ((t0, ins) :: (t2, ins2) :: R) [] = fin ((t2, ins2 ++ [.mk t0 ins]) :: R) [] := by
  rw [fin_two, kids_nil]
  simp
theorem dst_close (t0 : Tok) (ins : List Nd) (t2 : Tok) (ins2 : List Nd) (R : Stack) (h0 : closing t0 ≠ nob) : dst ((t2, ins2 ++ [.mk t0 ins]) :: R) = dst ((t0, ins) :: (t2, ins2) :: R) := by
  simp only [dst, depth_snoc, depthN_some (n := .mk t0 ins) h0, List.length_cons, Nd.kids_mk]
  omega
theorem dst_leaf {t : Tok} (h : closing t = nob) (t0 : Tok) (ins : List Nd) (R : Stack) : dst ((t0, ins ++ [.mk t []]) :: R) = dst ((t0, ins) :: R) := by
  simp only [dst, depth_snoc, depthN_none (n := .mk t []) h]
  omega
theorem dst_open (t : Tok) (R : Stack) : dst ((t, []) :: R) = max (dst R) R.length := by
  simp only [dst, depth]
  omega
theorem OpensS.ne {S : Stack} (h : OpensS S) : S ≠ [] := by rintro rfl; exact h
theorem OpensS.push {S : Stack} (h : OpensS S) {t : Tok} (ht : closing t ≠ nob) (ins : List Nd) : OpensS ((t, ins) :: S) := by
  cases S with
  | nil => exact h.elim
  | cons r R => exact ⟨ht, h⟩
theorem OpensS.same {t : Tok} {i j : List Nd} {R : Stack} (h : OpensS ((t, i) :: R)) : OpensS ((t, j) :: R) := by
  cases R with
  | nil => exact h
  | cons r R => exact h
theorem OpensS.pop {t t2 : Tok} {i i2 j : List Nd} {R : Stack} (h : OpensS ((t, i) :: (t2, i2) :: R)) : closing t ≠ nob ∧ OpensS ((t2, j) :: R) := ⟨h.1, OpensS.same (i := i2) h.2⟩
theorem fin_nodes (ts : List Tok) : fin [(Tok.k 0, [])] ts = nodes ts := by rw [fin_one]; rfl
end Go.Proofs.YtlliliddljkbfaaGreat.Sp
