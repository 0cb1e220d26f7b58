import Derived.Test.YtlliliddljkbfaaGreatC1
import Derived.Test.YtlliliddljkbfaaGreatC2
import Derived.Maps.AppendAt
namespace Go.Proofs.YtlliliddljkbfaaGreat.Sp
set_option maxHeartbeats 64000000
set_option maxRecDepth 100000
inductive Nd where
  | mk (t : Tok) (kids : List Nd)
def Nd.t : Nd → Tok
  | .mk t _ => t
def Nd.kids : Nd → List Nd
  | .mk _ k => k
@[simp] theorem Nd.t_mk (t : Tok) (k : List Nd) : (Nd.mk t k).t = t := rfl
@[simp] theorem Nd.kids_mk (t : Tok) (k : List Nd) : (Nd.mk t k).kids = k := rfl
def b1 (n : UInt8) : ByteArray := ⟨#[n]⟩
def nob : ByteArray := ⟨#[]⟩
def closing (t : Tok) : ByteArray :=
  if t.kind = 11 then b1 41 else if t.kind = 15 then (if t.word = b1 40 then b1 41 else if t.word = b1 91 then b1 93 else if t.word = b1 123 then b1 125 else nob) else nob
def signT (t : Tok) (w : ByteArray) : Bool := decide (t.kind = 15) && decide (t.word = w)
def sgnN (n : Nd) (w : ByteArray) : Bool := signT n.t w
structure TokOK (t : Tok) : Prop where
  word : t.word.size ≤ 4000000
  unit : t.unit.size ≤ 1000
  num : t.kind = 5 → 0 < t.word.size
  dim : t.kind = 7 → 0 < t.unit.size
  sign : t.kind = 15 → t.word.size = 1
  named : t.kind = 4 ∨ t.kind = 10 ∨ t.kind = 11 ∨ t.kind = 14 → 0 < t.word.size
def kidsF : Nat → ByteArray → List Tok → List Nd × List Tok
  | 0, _, ts => ([], ts)
  | _ + 1, _, [] => ([], [])
  | f + 1, e, t :: r =>
    if e ≠ nob ∧ signT t e = true then ([], r)
    else
      let a := if closing t = nob then ([], r) else kidsF f (closing t) r
      let b := kidsF f e a.2
      (.mk t a.1 :: b.1, b.2)
def kids (e : ByteArray) (ts : List Tok) : List Nd × List Tok := kidsF ts.length e ts
def inside (t : Tok) (r : List Tok) : List Nd × List Tok := if closing t = nob then ([], r) else kids (closing t) r
def nodes (ts : List Tok) : List Nd := (kids nob ts).1
mutual
def depthN : Nd → Nat
  | .mk t k => if closing t = nob then 0 else depth k + 1
def depth : List Nd → Nat
  | [] => 0
  | n :: r => max (depthN n) (depth r)
end
def blankN (n : Nd) : Bool := decide (n.t.kind = 1)
def dropB : List Nd → List Nd
  | [] => []
  | n :: r => if blankN n = true then dropB r else n :: r
def trimE (l : List Nd) : List Nd := (dropB l.reverse).reverse
def bare (l : List Nd) : List Nd := trimE (dropB l)
def partF (out : List (List Nd)) (cur : List Nd) : List Nd → List (List Nd)
  | [] => out ++ [cur]
  | n :: r => if sgnN n (b1 44) = true then partF (out ++ [cur]) [] r else partF out (cur ++ [n]) r
def parted (l : List Nd) : List (List Nd) := partF [] [] l
inductive Simple where
  | mk (kind : Nat) (name how value : ByteArray) (list : List (List (Nat × List Simple))) (place : Nat)
abbrev Step := Nat × List Simple
abbrev Sels := List (List Step)
def Simple.of (kind : Nat) (name : ByteArray) : Simple := .mk kind name nob nob [] 0
def combi (l : List Nd) : Option (Nat × List Nd) :=
  match dropB l with
  | [] => if l = [] then none else some (32, [])
  | n :: r =>
    if sgnN n (b1 62) = true then some (62, dropB r)
    else if sgnN n (b1 43) = true then some (43, dropB r)
    else if sgnN n (b1 126) = true then some (126, dropB r)
    else if (n :: r).length < l.length then some (32, n :: r) else none
def nRoot : ByteArray := ⟨#[114, 111, 111, 116]⟩
def nFirst : ByteArray := ⟨#[102, 105, 114, 115, 116, 45, 99, 104, 105, 108, 100]⟩
def nLast : ByteArray := ⟨#[108, 97, 115, 116, 45, 99, 104, 105, 108, 100]⟩
def nEmpty : ByteArray := ⟨#[101, 109, 112, 116, 121]⟩
def nNot : ByteArray := ⟨#[110, 111, 116]⟩
def nIs : ByteArray := ⟨#[105, 115]⟩
def nNth : ByteArray := ⟨#[110, 116, 104, 45, 99, 104, 105, 108, 100]⟩
def nOdd : ByteArray := ⟨#[111, 100, 100]⟩
def nEven : ByteArray := ⟨#[101, 118, 101, 110]⟩
def numF : Nat → List UInt8 → Option Nat
  | v, [] => if v ≤ 999 then some v else none
  | v, c :: r => if 48 ≤ c.toNat ∧ c.toNat ≤ 57 ∧ v ≤ 999 then numF (10 * v + c.toNat - 48) r else none
def placeOf (t : Tok) : Option Nat :=
  if t.kind = 14 then (if small t.word = nEven then some 1 else if small t.word = nOdd then some 0 else none)
  else if t.kind = 5 ∧ digI (pk t.word 0) = true then (numF 0 t.word.data.toList).map (· + 2)
  else none
def attrOf (l : List Nd) : Option Simple :=
  match l with
  | [] => none
  | n :: r =>
    if n.t.kind ≠ 14 then none
    else
      let l1 := bare r
      match l1 with
      | [] => some (Simple.of 91 n.t.word)
      | m :: r1 =>
        if m.t.kind ≠ 15 then none
        else
          let h := m.t.word = b1 126 ∨ m.t.word = b1 94 ∨ m.t.word = b1 36 ∨ m.t.word = b1 42
          let l2 := if h then r1 else m :: r1
          match l2 with
          | [] => none
          | q :: r2 =>
            match bare r2 with
            | [v] => if sgnN q (b1 61) = true ∧ (v.t.kind = 14 ∨ v.t.kind = 2) then some (.mk 91 n.t.word ((if h then m.t.word else nob) ++ b1 61) v.t.word [] 0) else none
            | _ => none
section
variable (rec : List Nd → Option Sels)
def pseudoW (n : Nd) : Option Simple :=
  let w := small n.t.word
  if n.t.kind = 14 then (if w = nRoot ∨ w = nFirst ∨ w = nLast ∨ w = nEmpty then some (Simple.of 58 w) else none)
  else if n.t.kind ≠ 11 then none
  else if w = nNot ∨ w = nIs then (rec n.kids).map (fun l => .mk 58 w nob nob l 0)
  else if w = nNth then
    (match bare n.kids with
     | [v] => (placeOf v.t).map (fun p => .mk 58 w nob nob [] p)
     | _ => none)
  else none
def partsW : List Simple → List Nd → Option (List Simple × List Nd)
  | acc, [] => some (acc, [])
  | acc, [n] =>
    if n.t.kind = 4 then some (acc ++ [Simple.of 35 n.t.word], [])
    else if sgnN n (b1 46) = true then none
    else if sgnN n (b1 91) = true then (match attrOf (bare n.kids) with | none => none | some s => some (acc ++ [s], []))
    else if sgnN n (b1 58) = true then none
    else some (acc, [n])
  | acc, n :: m :: r =>
    if n.t.kind = 4 then partsW (acc ++ [Simple.of 35 n.t.word]) (m :: r)
    else if sgnN n (b1 46) = true then (if m.t.kind = 14 then partsW (acc ++ [Simple.of 46 m.t.word]) r else none)
    else if sgnN n (b1 91) = true then (match attrOf (bare n.kids) with | none => none | some s => partsW (acc ++ [s]) (m :: r))
    else if sgnN n (b1 58) = true then (match pseudoW rec m with | none => none | some s => partsW (acc ++ [s]) r)
    else some (acc, n :: m :: r)
def tagOf (l : List Nd) : List Simple × List Nd :=
  match l with
  | [] => ([], [])
  | n :: r => if n.t.kind = 14 then ([Simple.of 116 (small n.t.word)], r) else if sgnN n (b1 42) = true then ([Simple.of 116 nob], r) else ([], n :: r)
def compoundW (l : List Nd) : Option (List Simple × List Nd) := partsW rec (tagOf l).1 (tagOf l).2
def complexF : Nat → Nat → List Nd → Option (List Step)
  | 0, _, _ => none
  | f + 1, b, l =>
    match compoundW rec l with
    | none => none
    | some (all, r) =>
      if all = [] then none
      else if r = [] then some [(b, all)]
      else match combi r with
        | none => none
        | some (c, r') => (complexF f c r').map (fun x => (b, all) :: x)
def complexW (l : List Nd) : Option (List Step) := complexF rec (l.length + 1) 0 l
def eachW : List (List Nd) → Option Sels
  | [] => some []
  | p :: r => match complexW rec (bare p) with | none => none | some s => (eachW r).map (fun x => s :: x)
def listW (l : List Nd) : Option Sels := if 8 < (parted l).length then none else eachW rec (parted l)
end
def selF : Nat → List Nd → Option Sels
  | 0, l => listW (fun _ => none) l
  | f + 1, l => listW (selF f) l
def sels (l : List Nd) : Option Sels := selF (depth l) l
structure Elem where
  parent : Int
  tag : ByteArray
  id : ByteArray
  classes : List ByteArray
  attrs : List (ByteArray × ByteArray)
abbrev Page := List Elem
def pageB (c : UInt8) : Bool := (decide (97 ≤ c.toNat) && decide (c.toNat ≤ 122)) || (decide (48 ≤ c.toNat) && decide (c.toNat ≤ 57)) || c == 45
def nameP (s : ByteArray) : Bool := s.data.toList.all pageB && decide (s.size ≤ 12)
def valueP (s : ByteArray) : Bool := s.data.toList.all (fun c => pageB c || c == 32) && decide (s.size ≤ 24)
def elemP (i : Nat) (x : Elem) : Bool :=
  nameP x.tag && !decide (x.tag = nob) && nameP x.id && decide (x.classes.length ≤ 4) && decide (x.attrs.length ≤ 4) &&
  (if i = 0 then x.parent == -1 else decide (0 ≤ x.parent) && decide (x.parent < i)) &&
  x.classes.all (fun c => nameP c && !decide (c = nob)) && x.attrs.all (fun a => nameP a.1 && valueP a.2 && !decide (a.1 = nob))
def elemsP : Nat → Page → Bool
  | _, [] => true
  | i, x :: r => elemP i x && elemsP (i + 1) r
def pageP (p : Page) : Bool := decide (1 ≤ p.length) && decide (p.length ≤ 30) && elemsP 0 p
def parentOf (p : Page) (e : Nat) : Int := (p[e]?.map Elem.parent).getD (-1)
def aheadF (p : Page) (q : Int) : Nat → List Nat
  | 0 => []
  | k + 1 => if parentOf p k = q then aheadF p q k ++ [k] else aheadF p q k
def ahead (p : Page) (e : Nat) : List Nat := aheadF p (parentOf p e) e
def before (p : Page) (e : Nat) : Int := match (ahead p e).getLast? with | none => -1 | some k => (k : Int)
def placeN (p : Page) (e : Nat) : Nat := (ahead p e).length + 1
def lastB (p : Page) (e : Nat) : Bool := (List.range p.length).all (fun k => !(decide (e < k) && parentOf p k == parentOf p e))
def emptyB (p : Page) (e : Nat) : Bool := (List.range p.length).all (fun k => parentOf p k != (e : Int))
def wordsF : ByteArray → List UInt8 → List ByteArray
  | w, [] => [w]
  | w, c :: r => if blankI c.toNat = true then w :: wordsF nob r else wordsF (w ++ b1 c) r
def wordIn (s v : ByteArray) : Bool := !decide (v = nob) && (wordsF nob s.data.toList).any (fun c => decide (c = v))
def hasAt (s v : ByteArray) (i : Nat) : Bool := decide (i + v.size ≤ s.size) && decide (s.extract i (i + v.size) = v)
def hasIn (s v : ByteArray) : Bool := (List.range (s.size + 1)).any (hasAt s v)
def fits (how x v : ByteArray) : Bool :=
  if how = nob then true
  else if how = b1 61 then decide (x = v)
  else if how = ⟨#[126, 61]⟩ then wordIn x v
  else !decide (v = nob) && (if how = ⟨#[94, 61]⟩ then hasAt x v 0 else if how = ⟨#[36, 61]⟩ then decide (v.size ≤ x.size) && hasAt x v (x.size - v.size) else hasIn x v)
def attrB (name how v : ByteArray) : List (ByteArray × ByteArray) → Bool
  | [] => false
  | a :: r => if a.1 = name then fits how a.2 v else attrB name how v r
def simpleB (kind : Nat) (name how value : ByteArray) (place : Nat) (p : Page) (e : Nat) (inn : Bool) : Bool :=
  match p[e]? with
  | none => false
  | some x =>
    if kind = 116 then decide (name = nob) || decide (name = small x.tag)
    else if kind = 35 then !decide (x.id = nob) && decide (x.id = name)
    else if kind = 46 then x.classes.any (fun c => decide (c = name))
    else if kind = 91 then attrB name how value x.attrs
    else if name = nRoot then e == 0
    else if name = nFirst then placeN p e == 1
    else if name = nLast then lastB p e
    else if name = nEmpty then emptyB p e
    else if name = nNth then (if 2 ≤ place then placeN p e == place - 2 else placeN p e % 2 == 1 - place)
    else if name = nNot then !inn
    else inn
def ledF (p : Page) (by_ : Nat) (was : Nat → Bool) : Nat → Nat → Bool
  | 0, _ => false
  | f + 1, e =>
    let e' := if by_ = 32 ∨ by_ = 62 then parentOf p e else before p e
    if e' < 0 then false
    else if was e'.toNat = true then true
    else if by_ = 62 ∨ by_ = 43 then false
    else ledF p by_ was f e'.toNat
def led (p : Page) (by_ : Nat) (was : Nat → Bool) (e : Nat) : Bool := ledF p by_ was (e + 1) e
mutual
def onS (p : Page) : Simple → Nat → Bool
  | .mk kind name how value list place, e => simpleB kind name how value place p e (onL p list e)
def onA (p : Page) : List Simple → Nat → Bool
  | [], _ => true
  | s :: r, e => onS p s e && onA p r e
def onT (p : Page) : Nat × List Simple → Nat → Bool
  | (_, all), e => onA p all e
def onC (p : Page) : List (Nat × List Simple) → Option (Nat → Bool) → Nat → Bool
  | [], was, e => (was.getD (fun _ => false)) e
  | (b, all) :: r, was, e => onC p r (some (fun k => (match was with | none => true | some f => led p b f k) && onA p all k)) e
def onL (p : Page) : List (List (Nat × List Simple)) → Nat → Bool
  | [], _ => false
  | c :: r, e => onC p c none e || onL p r e
end
def matchesA (selector : ByteArray) (p : Page) (e : Int) : Bool × Int :=
  if 100 < selector.size then (false, 1)
  else if ¬ (pageP p = true ∧ 0 ≤ e ∧ e < p.length) then (false, 4)
  else
    let l := nodes (toks (clean selector))
    match sels l with
    | none => (false, 3)
    | some s => if 8 < depth l then (false, 3) else (onL p s e.toNat, 0)
end Go.Proofs.YtlliliddljkbfaaGreat.Sp
namespace Go.Proofs.YtlliliddljkbfaaGreat
set_option maxHeartbeats 64000000
set_option maxRecDepth 100000
open Go.RowKit Sp
section
theorem hid {p : Prop} (h : p) : Hid p := h
theorem bytes_toList (a : ByteArray) : a.toList = a.data.toList := by
  simp [ByteArray.toList_eq]
theorem bytes_beq (a b : ByteArray) : (a.toList == b.toList) = decide (a = b) := by
  rw [Bool.eq_iff_iff, beq_iff_eq, decide_eq_true_iff, bytes_toList, bytes_toList]
  constructor
  · intro h; exact ByteArray.ext (Array.toList_inj.1 h)
  · rintro rfl; rfl
theorem bytes_lit (a : ByteArray) (l : List UInt8) : (a.toList == l) = decide (a = ⟨l.toArray⟩) := by
  rw [← bytes_beq a ⟨l.toArray⟩, bytes_toList ⟨l.toArray⟩]
def nodV (t : Tok) (kv : Value) : Value := .agg #[.int .i64 t.kind, .string t.word, .string t.unit, kv]
mutual
def LiesN (S : Nat → Prop) (w : World) : Nd → Nat → Nat → Prop
  | .mk t k, g, o => (S g ∧ TokOK t) ∧ w.cell? ⟨g, o, none⟩ = some (.int .i64 t.kind) ∧ w.cell? ⟨g, o + 1, none⟩ = some (.string t.word) ∧ w.cell? ⟨g, o + 2, none⟩ = some (.string t.unit) ∧
      ∃ (a : Option Addr) (cap : Nat), w.cell? ⟨g, o + 3, none⟩ = some (.slice a k.length cap) ∧ (k.length ≤ cap ∧ k.length ≤ 600) ∧ (k ≠ [] → ∃ g' o', a = some ⟨g', o', none⟩ ∧ LiesL S w k g' o')
def LiesL (S : Nat → Prop) (w : World) : List Nd → Nat → Nat → Prop
  | [], _, _ => True
  | n :: r, g, o => LiesN S w n g o ∧ LiesL S w r g (o + 4)
end
def Sl (S : Nat → Prop) (w : World) (v : Value) (ns : List Nd) : Prop :=
  ∃ (a : Option Addr) (cap : Nat), v = .slice a ns.length cap ∧ (ns.length ≤ cap ∧ ns.length ≤ 600) ∧ (ns ≠ [] → ∃ g o, a = some ⟨g, o, none⟩ ∧ LiesL S w ns g o)
section
variable {S S' : Nat → Prop} {w w' : World}
theorem liesN_iff (t : Tok) (k : List Nd) (g o : Nat) : LiesN S w (.mk t k) g o ↔ (S g ∧ TokOK t) ∧ w.cell? ⟨g, o, none⟩ = some (.int .i64 t.kind) ∧ w.cell? ⟨g, o + 1, none⟩ = some (.string t.word) ∧ w.cell? ⟨g, o + 2, none⟩ = some (.string t.unit) ∧
    ∃ kv, w.cell? ⟨g, o + 3, none⟩ = some kv ∧ Sl S w kv k := by
  unfold LiesN Sl
  constructor
  · rintro ⟨h0, h1, h2, h3, a, cap, h4, h5⟩; exact ⟨h0, h1, h2, h3, _, h4, a, cap, rfl, h5⟩
  · rintro ⟨h0, h1, h2, h3, kv, h4, a, cap, rfl, h5⟩; exact ⟨h0, h1, h2, h3, a, cap, h4, h5⟩
mutual
theorem LiesN.keep (hS : ∀ g, S g → S' g) (hw : ∀ g, S g → w'.heap[g]? = w.heap[g]?) : ∀ (n : Nd) (g o : Nat), LiesN S w n g o → LiesN S' w' n g o
  | .mk t k, g, o, h => by
    unfold LiesN at h ⊢
    obtain ⟨⟨h0, hok⟩, h1, h2, h3, a, cap, h4, hc, h5⟩ := h
    have e : ∀ x, w'.cell? ⟨g, x, none⟩ = w.cell? ⟨g, x, none⟩ := fun x => World.cell?_of_block (w := w) (hw g h0)
    refine ⟨⟨hS g h0, hok⟩, by rw [e]; exact h1, by rw [e]; exact h2, by rw [e]; exact h3, a, cap, by rw [e]; exact h4, hc, fun hk => ?_⟩
    obtain ⟨g', o', h6, h7⟩ := h5 hk
    exact ⟨g', o', h6, LiesL.keep hS hw k g' o' h7⟩
theorem LiesL.keep (hS : ∀ g, S g → S' g) (hw : ∀ g, S g → w'.heap[g]? = w.heap[g]?) : ∀ (l : List Nd) (g o : Nat), LiesL S w l g o → LiesL S' w' l g o
  | [], _, _, _ => by simp [LiesL]
  | n :: r, g, o, h => by
    unfold LiesL at h ⊢
    exact ⟨LiesN.keep hS hw n g o h.1, LiesL.keep hS hw r g (o + 4) h.2⟩
end
theorem Sl.keep {v : Value} {ns : List Nd} (h : Sl S w v ns) (hS : ∀ g, S g → S' g) (hw : ∀ g, S g → w'.heap[g]? = w.heap[g]?) : Sl S' w' v ns := by
  obtain ⟨a, cap, h1, hc, h2⟩ := h
  refine ⟨a, cap, h1, hc, fun hn => ?_⟩
  obtain ⟨g, o, h3, h4⟩ := h2 hn
  exact ⟨g, o, h3, h4.keep hS hw⟩
theorem Sl.nil (S : Nat → Prop) (w : World) : Sl S w (.slice none 0 0) [] := ⟨none, 0, rfl, by simp, fun h => absurd rfl h⟩
theorem Sl.len {v : Value} {ns : List Nd} (h : Sl S w v ns) : ns.length ≤ 600 := by
  obtain ⟨_, _, _, hc, _⟩ := h; exact hc.2
theorem Sl.below {B B' : Nat} {v : Value} {ns : List Nd} (h : Sl (fun b => b < B) w v ns) (hb : Below B' w w') (hB : B ≤ B') : Sl (fun b => b < B) w' v ns :=
  h.keep (fun _ hg => hg) fun g hg => hb.block g (Nat.lt_of_lt_of_le hg hB)
theorem Sl.mono {B B' : Nat} {v : Value} {ns : List Nd} (h : Sl (fun b => b < B) w v ns) (hB : B ≤ B') : Sl (fun b => b < B') w v ns :=
  h.keep (fun _ hg => Nat.lt_of_lt_of_le hg hB) fun _ _ => rfl
theorem Sl.drewN {v : Value} {ns : List Nd} (h : Sl S w v ns) (n : Nat) : Sl S (w.drewN n) v ns :=
  h.keep (fun _ hg => hg) fun _ _ => rfl
theorem LiesL.at : ∀ (l : List Nd) (g o i : Nat) (_ : LiesL S w l g o) (hi : i < l.length), LiesN S w l[i] g (o + i * 4)
  | n :: r, g, o, 0, h, _ => by unfold LiesL at h; simpa using h.1
  | n :: r, g, o, i + 1, h, hi => by
    unfold LiesL at h
    have := LiesL.at r g (o + 4) i h.2 (by simpa using hi)
    rw [show o + (i + 1) * 4 = o + 4 + i * 4 from by omega]
    simpa using this
theorem LiesL.drop : ∀ (l : List Nd) (g o i : Nat) (_ : LiesL S w l g o), LiesL S w (l.drop i) g (o + i * 4)
  | l, g, o, 0, h => by simpa using h
  | [], g, o, i + 1, h => by simp [LiesL]
  | n :: r, g, o, i + 1, h => by
    unfold LiesL at h
    rw [show o + (i + 1) * 4 = o + 4 + i * 4 from by omega]
    simpa using LiesL.drop r g (o + 4) i h.2
theorem LiesL.take : ∀ (l : List Nd) (g o i : Nat) (_ : LiesL S w l g o), LiesL S w (l.take i) g o
  | l, g, o, 0, h => by simp [LiesL]
  | [], g, o, i + 1, h => by simp [LiesL]
  | n :: r, g, o, i + 1, h => by
    unfold LiesL at h
    simp only [List.take_succ_cons]
    unfold LiesL
    exact ⟨h.1, LiesL.take r g (o + 4) i h.2⟩
theorem LiesL.block {l : List Nd} {g o : Nat} (h : LiesL S w l g o) (hl : l ≠ []) : S g := by
  cases l with
  | nil => exact absurd rfl hl
  | cons n r => cases n; unfold LiesL at h; unfold LiesN at h; exact h.1.1.1
end
theorem Sl.cut {S : Nat → Prop} {w : World} {a : Option Addr} {n cap : Nat} {ns : List Nd} (h : Sl S w (.slice a n cap) ns) (i j : Nat) (hij : i ≤ j) (hj : j ≤ ns.length) : Sl S w (sliced a i j cap 4) ((ns.take j).drop i) := by
  obtain ⟨a', cap', h1, ⟨hc, h6⟩, h2⟩ := h
  cases h1
  unfold sliced
  have hl : ((ns.take j).drop i).length = j - i := by simp; omega
  refine ⟨_, cap - i, by rw [hl], ⟨by omega, by omega⟩, fun hn => ?_⟩
  have hne : ns ≠ [] := by rintro rfl; simp at hn
  have hlt : i < j := by
    by_cases e : i < j
    · exact e
    · exact absurd (List.eq_nil_of_length_eq_zero (by omega)) hn
  obtain ⟨g, o, rfl, h4⟩ := h2 hne
  refine ⟨g, o + i * 4, ?_, (h4.take ns g o j).drop _ g o i⟩
  rw [if_neg (by omega)]
  simp [Addr.add]
theorem Sl.none_any (S : Nat → Prop) (w : World) (a : Option Addr) (c : Nat) : Sl S w (.slice a 0 c) [] := ⟨a, c, rfl, ⟨by simp, by simp⟩, fun h => absurd rfl h⟩
theorem Sl.tail {S : Nat → Prop} {w : World} {g o n cap : Nat} {x : Nd} {r : List Nd} (h : Sl S w (.slice (some ⟨g, o, none⟩) n cap) (x :: r)) : Sl S w (.slice (some ⟨g, o + 4, none⟩) r.length (cap - 1)) r := by
  obtain ⟨a', cap', h1, ⟨hc, h6⟩, h2⟩ := h
  cases h1
  simp only [List.length_cons] at hc h6
  refine ⟨_, cap - 1, rfl, ⟨by omega, by omega⟩, fun _ => ?_⟩
  obtain ⟨g', o', e, h4⟩ := h2 (by simp)
  cases e
  unfold LiesL at h4
  exact ⟨g, o + 4, rfl, h4.2⟩
theorem Sl.init {S : Nat → Prop} {w : World} {a : Option Addr} {n cap : Nat} {ns : List Nd} (h : Sl S w (.slice a n cap) ns) (j : Nat) (hj : j ≤ ns.length) : Sl S w (.slice a j cap) (ns.take j) := by
  obtain ⟨a', cap', h1, ⟨hc, h6⟩, h2⟩ := h
  cases h1
  refine ⟨a, cap, by simp; omega, ⟨by simp; omega, by simp; omega⟩, fun hn => ?_⟩
  obtain ⟨g, o, rfl, h4⟩ := h2 (by rintro rfl; simp at hn)
  exact ⟨g, o, rfl, h4.take ns g o j⟩
theorem Sl.here {S : Nat → Prop} {w : World} {a : Option Addr} {n cap : Nat} {ns : List Nd} (h : Sl S w (.slice a n cap) ns) (hn : ns ≠ []) : ∃ g o, a = some ⟨g, o, none⟩ ∧ LiesL S w ns g o ∧ ns.length ≤ cap := by
  obtain ⟨a', cap', h1, ⟨hc, h6⟩, h2⟩ := h
  cases h1
  obtain ⟨g, o, rfl, h4⟩ := h2 hn
  exact ⟨g, o, rfl, h4, hc⟩
theorem Sl.form {S : Nat → Prop} {w : World} {v : Value} {ns : List Nd} (h : Sl S w v ns) : ∃ a cap, v = .slice a ns.length cap := by
  obtain ⟨a, cap, h1, _⟩ := h
  exact ⟨a, cap, h1⟩
structure NodAt (S : Nat → Prop) (w : World) (n : Nd) (g o : Nat) (kv : Value) : Prop where
  s : S g
  c0 : w.cell? ⟨g, o, none⟩ = some (.int .i64 n.t.kind)
  c1 : w.cell? ⟨g, o + 1, none⟩ = some (.string n.t.word)
  c2 : w.cell? ⟨g, o + 2, none⟩ = some (.string n.t.unit)
  c3 : w.cell? ⟨g, o + 3, none⟩ = some kv
  k : Sl S w kv n.kids
  ok : TokOK n.t
theorem LiesL.node {S : Nat → Prop} {w : World} {l : List Nd} {g o i : Nat} (h : LiesL S w l g o) (hi : i < l.length) : ∃ kv, NodAt S w l[i] g (o + i * 4) kv := by
  have h1 := h.at l g o i hi
  obtain ⟨t, k, e⟩ : ∃ t k, l[i] = Nd.mk t k := by cases l[i]; exact ⟨_, _, rfl⟩
  rw [e] at h1 ⊢
  rw [liesN_iff] at h1
  obtain ⟨⟨h0, hok⟩, h1, h2, h3, kv, h4, h5⟩ := h1
  exact ⟨kv, h0, h1, h2, h3, h4, h5, hok⟩
theorem Sl.head {S : Nat → Prop} {w : World} {v : Value} {x : Nd} {r : List Nd} (h : Sl S w v (x :: r)) : ∃ g o kv cap, v = .slice (some ⟨g, o, none⟩) (r.length + 1) cap ∧ NodAt S w x g o kv ∧ r.length + 1 ≤ cap := by
  obtain ⟨a, cap, rfl⟩ := h.form
  obtain ⟨g, o, rfl, hL, hc⟩ := h.here (by simp)
  obtain ⟨kv, hN⟩ := hL.node (i := 0) (by simp)
  exact ⟨g, o, kv, cap, rfl, by simpa using hN, hc⟩
def KidC (S : Nat → Prop) (w : World) : List Nd → List Value → Prop
  | [], cs => cs = []
  | n :: r, cs => ∃ kv rest, cs = [.int .i64 n.t.kind, .string n.t.word, .string n.t.unit, kv] ++ rest ∧ (Sl S w kv n.kids ∧ TokOK n.t) ∧ KidC S w r rest
theorem KidC.keep {S S' : Nat → Prop} {w w' : World} (hS : ∀ g, S g → S' g) (hw : ∀ g, S g → w'.heap[g]? = w.heap[g]?) : ∀ (l : List Nd) (cs : List Value), KidC S w l cs → KidC S' w' l cs
  | [], _, h => h
  | _ :: r, _, ⟨kv, rest, h1, h2, h3⟩ => ⟨kv, rest, h1, ⟨h2.1.keep hS hw, h2.2⟩, KidC.keep hS hw r rest h3⟩
theorem KidC.snoc {S : Nat → Prop} {w : World} : ∀ (l : List Nd) (cs : List Value) (_ : KidC S w l cs) (n : Nd) (kv : Value) (_ : Sl S w kv n.kids ∧ TokOK n.t), KidC S w (l ++ [n]) (cs ++ [.int .i64 n.t.kind, .string n.t.word, .string n.t.unit, kv])
  | [], cs, h, n, kv, hk => ⟨kv, [], by simp [show cs = [] from h], hk, rfl⟩
  | m :: r, cs, ⟨kv', rest, h1, h2, h3⟩, n, kv, hk => ⟨kv', rest ++ [.int .i64 n.t.kind, .string n.t.word, .string n.t.unit, kv], by simp [h1], h2, KidC.snoc r rest h3 n kv hk⟩
theorem KidC.len {S : Nat → Prop} {w : World} : ∀ (l : List Nd) (cs : List Value), KidC S w l cs → cs.length = l.length * 4
  | [], cs, h => by rw [show cs = [] from h]; rfl
  | _ :: r, _, ⟨_, rest, h1, _, h3⟩ => by rw [h1]; simp [KidC.len r rest h3]; omega
theorem KidC.lies {S : Nat → Prop} {w : World} {g : Nat} (hg : S g) : ∀ (l : List Nd) (cs : List Value) (o : Nat) (_ : KidC S w l cs) (_ : ∀ j u, cs[j]? = some u → w.cell? ⟨g, o + j, none⟩ = some u), LiesL S w l g o
  | [], _, _, _, _ => by simp [LiesL]
  | .mk t k :: r, cs, o, ⟨kv, rest, h1, h2, h3⟩, hc => by
    subst h1
    unfold LiesL
    rw [liesN_iff]
    refine ⟨⟨⟨hg, h2.2⟩, hc 0 _ rfl, hc 1 _ rfl, hc 2 _ rfl, kv, hc 3 _ rfl, h2.1⟩, KidC.lies hg r rest (o + 4) h3 fun j u hu => ?_⟩
    rw [show o + 4 + j = o + (j + 4) from by omega]
    exact hc (j + 4) u (by simpa using hu)
def Oth (base : Nat) (w : World) (v : Value) (b : Nat) : Prop := base ≤ b ∧ b < w.heap.size ∧ some b ≠ v.ownBlock
def Frm (base : Nat) (w : World) (b : Nat) : Prop := base ≤ b ∧ b < w.heap.size
def Mkg (T : TypeId) (base : Nat) (w : World) (v : Value) (l : List Nd) : Prop :=
  ∃ cs, w.ownsRow base T 4 v l.length cs ∧ KidC (Oth base w v) w l cs
theorem Mkg.nil (T : TypeId) (base : Nat) (w : World) : Mkg T base w (.slice none 0 0) [] := ⟨[], World.ownsRow_nil _ _ _ _, rfl⟩
theorem Mkg.sl {T : TypeId} {base : Nat} {w : World} {v : Value} {l : List Nd} (h : Mkg T base w v l) (h6 : l.length ≤ 600) : Sl (Frm base w) w v l := by
  obtain ⟨cs, h1, h2⟩ := h
  have h3 : KidC (Frm base w) w l cs := h2.keep (fun g hg => ⟨hg.1, hg.2.1⟩) (fun _ _ => rfl)
  rcases h1.2 with ⟨rfl, hn⟩ | ⟨g, cap, cur, rfl, hbg, hg, hnc, hrest⟩
  · have : l = [] := List.eq_nil_of_length_eq_zero hn
    subst this
    exact Sl.nil _ _
  · refine ⟨_, cap, rfl, ⟨hnc, h6⟩, fun _ => ⟨g, 0, rfl, KidC.lies ⟨hbg, (Array.getElem?_eq_some_iff.1 hg).1⟩ l cs 0 h3 fun j u hu => ?_⟩⟩
    have := h1.cells (g := g) rfl j u hu
    rw [Addr.add_lit, Nat.zero_add] at this
    rw [Nat.zero_add]
    exact this
theorem Mkg.lt {T : TypeId} {base : Nat} {w : World} {v : Value} {l : List Nd} (h : Mkg T base w v l) : ∀ k, v.ownBlock = some k → base ≤ k ∧ k < w.heap.size := by
  obtain ⟨cs, h1, _⟩ := h
  exact h1.lt
theorem Mkg.keep {T : TypeId} {base : Nat} {w w' : World} {v : Value} {l : List Nd} (h : Mkg T base w v l) (hs : w.heap.size ≤ w'.heap.size) (hw : ∀ g, base ≤ g → g < w.heap.size → w'.heap[g]? = w.heap[g]?) : Mkg T base w' v l := by
  obtain ⟨cs, h1, h2⟩ := h
  refine ⟨cs, ⟨h1.1, ?_⟩, h2.keep (fun g hg => ⟨hg.1, by have := hg.2.1; omega, hg.2.2⟩) (fun g hg => hw g hg.1 hg.2.1)⟩
  rcases h1.2 with hn | ⟨g, cap, cur, rfl, hbg, hgg, rest⟩
  · exact .inl hn
  · exact .inr ⟨g, cap, cur, rfl, hbg, by rw [hw g hbg (Array.getElem?_eq_some_iff.1 hgg).1]; exact hgg, rest⟩
theorem Mkg.below {T : TypeId} {base : Nat} {w w' : World} {v : Value} {l : List Nd} (h : Mkg T base w v l) (hb : Below w.heap.size w w') : Mkg T base w' v l :=
  h.keep hb.size fun g _ hg => hb.block g hg
theorem Mkg.alloc {T : TypeId} {base : Nat} {w : World} {v : Value} {l : List Nd} (h : Mkg T base w v l) (o : Obj) : Mkg T base (w.alloc o) v l :=
  h.keep (by simp) fun g _ hg => Below.heap_alloc _ _ _ hg
theorem Mkg.form {T : TypeId} {base : Nat} {w : World} {v : Value} {l : List Nd} (h : Mkg T base w v l) : ∃ a cap, v = .slice a l.length cap := by
  obtain ⟨cs, h1, _⟩ := h
  rcases h1.2 with ⟨rfl, hn⟩ | ⟨g, cap, cur, rfl, _⟩
  · exact ⟨none, 0, by rw [hn]⟩
  · exact ⟨_, _, rfl⟩
theorem Mkg.snoc {T : TypeId} {base : Nat} {w w2 : World} {v v2 : Value} {l : List Nd} {cs : List Value} {n : Nd} {kv : Value} (h2 : KidC (Oth base w v) w l cs) (hk : Sl (Oth base w v) w kv n.kids) (hn : TokOK n.t)
    (hown : w2.ownsRow base T 4 v2 (l.length + 1) (cs ++ [.int .i64 n.t.kind, .string n.t.word, .string n.t.unit, kv])) (hg : w.grownBy w2 v.ownBlock) (hat : v2.ownBlock = v.ownBlock ∨ v2.ownBlock = some w.heap.size) : Mkg T base w2 v2 (l ++ [n]) := by
  have hS : ∀ g, Oth base w v g → Oth base w2 v2 g := by
    rintro g ⟨h3, h4, h5⟩
    refine ⟨h3, Nat.lt_of_lt_of_le h4 hg.size, ?_⟩
    rcases hat with e | e
    · rw [e]; exact h5
    · rw [e]; intro e2; cases e2; omega
  have hw : ∀ g, Oth base w v g → w2.heap[g]? = w.heap[g]? := fun g hgg => hg.block g hgg.2.1 hgg.2.2
  refine ⟨_, by rw [List.length_append]; exact hown, KidC.snoc _ _ (h2.keep hS hw) n kv ⟨hk.keep hS hw, hn⟩⟩
theorem Mkg.apart {T : TypeId} {base : Nat} {w w3 W : World} {v kv : Value} {l ks : List Nd} (h : Mkg T base w v l) (hk : Sl (Frm w.heap.size w3) w3 kv ks) (hbase : base ≤ w.heap.size) (hs : w3.heap.size ≤ W.heap.size) (hw : ∀ g, g < w3.heap.size → W.heap[g]? = w3.heap[g]?) : Sl (Oth base W v) W kv ks :=
  hk.keep (fun g hg => ⟨by have := hg.1; omega, by have := hg.2; omega, fun e => by have := (h.lt g e.symm).2; have := hg.1; omega⟩) fun g hg => hw g hg.2
end
theorem rstr2 {a b : ByteArray} (h : a = b) : Ending.returned (.string a) = Ending.returned (.string b) := by rw [h]
theorem IsSign_c (t : Tok) (kv : Value) (x : ByteArray) (w : World) :
    Calls Tryz.prog 195 #[nodV t kv, .string x] w fun e w' => e = .returned (.bool (signT t x)) ∧ Below w.heap.size w w' := by
  unfold nodV
  cases h : (t.kind == 15)
  · have HV : Hid (signT t x = false) := by show _ = _; simp at h; simp [signT, h]
    go_enter Tryz.func195, Tryz.ntmps195
    go_wp2_with fail
    go_ret
    exact ⟨rbool HV.out.symm, (Below.refl _ _).alloc (Nat.le_refl _) _⟩
  · have HV : Hid (signT t x = (t.word.toList == x.toList)) := by show _ = _; rw [bytes_beq]; simp at h; simp [signT, h]
    go_enter Tryz.func195, Tryz.ntmps195
    go_wp2_with fail
    go_ret
    exact ⟨rbool HV.out.symm, (Below.refl _ _).alloc (Nat.le_refl _) _⟩
theorem Closer_c (t : Tok) (w : World) :
    Calls Tryz.prog 109 #[.agg #[.int .i64 t.kind, .string t.word, .string t.unit]] w fun e w' => e = .returned (.string (closing t)) ∧ Below w.heap.size w w' := by
  cases h11 : (t.kind == 11)
  · cases h15 : (t.kind == 15)
    · have HV : Hid (closing t = nob) := by show _ = _; simp at h11 h15; simp [closing, h11, h15]
      go_enter Tryz.func109, Tryz.ntmps109
      go_wp2_with fail
      go_ret
      exact ⟨rstr2 HV.out.symm, (Below.refl _ _).alloc (Nat.le_refl _) _⟩
    · have e15 : t.kind = 15 := by simpa using h15
      cases h40 : (t.word.toList == [40])
      · cases h91 : (t.word.toList == [91])
        · cases h123 : (t.word.toList == [123])
          · have HV : Hid (closing t = nob) := by show _ = _; rw [bytes_lit] at h40 h91 h123; simp at h40 h91 h123; simp [closing, e15, b1, h40, h91, h123]
            clear e15
            go_enter Tryz.func109, Tryz.ntmps109
            go_wp2_with fail
            go_ret
            exact ⟨rstr2 HV.out.symm, (Below.refl _ _).alloc (Nat.le_refl _) _⟩
          · have HV : Hid (closing t = b1 125) := by show _ = _; rw [bytes_lit] at h40 h91 h123; simp at h40 h91 h123; simp [closing, e15, b1, h123]
            clear e15
            go_enter Tryz.func109, Tryz.ntmps109
            go_wp2_with fail
            go_ret
            exact ⟨rstr2 HV.out.symm, (Below.refl _ _).alloc (Nat.le_refl _) _⟩
        · have HV : Hid (closing t = b1 93) := by show _ = _; rw [bytes_lit] at h40 h91; simp at h40 h91; simp [closing, e15, b1, h91]
          clear e15
          go_enter Tryz.func109, Tryz.ntmps109
          go_wp2_with fail
          go_ret
          exact ⟨rstr2 HV.out.symm, (Below.refl _ _).alloc (Nat.le_refl _) _⟩
      · have HV : Hid (closing t = b1 41) := by show _ = _; rw [bytes_lit] at h40; simp at h40; simp [closing, e15, b1, h40]
        clear e15
        go_enter Tryz.func109, Tryz.ntmps109
        go_wp2_with fail
        go_ret
        exact ⟨rstr2 HV.out.symm, (Below.refl _ _).alloc (Nat.le_refl _) _⟩
  · have HV : Hid (closing t = b1 41) := by show _ = _; simp at h11; simp [closing, h11]
    go_enter Tryz.func109, Tryz.ntmps109
    go_wp2_with fail
    go_ret
    exact ⟨rstr2 HV.out.symm, (Below.refl _ _).alloc (Nat.le_refl _) _⟩
end Go.Proofs.YtlliliddljkbfaaGreat
