import Derived.Test.YtlliliddljkbfaaGreatC1
import Derived.Test.YtlliliddljkbfaaGreatC2
import Derived.Test.YtlliliddljkbfaaGreatC3
import Derived.Test.YtlliliddljkbfaaGreatC5
import Derived.Lib.Index
import Derived.Lib.IndexBytes
import Derived.Lib.Strings
import Derived.Scope
import Derived.ScopeJumps
namespace Go.Proofs.YtlliliddljkbfaaGreat
set_option maxHeartbeats 64000000
set_option maxRecDepth 100000
open Go.RowKit Sp
theorem small_nat (c : UInt8) : (smallB c).toNat = if 65 ≤ c.toNat ∧ c.toNat ≤ 90 then c.toNat + 32 else c.toNat := by
  unfold smallB
  have h := c.toNat_lt
  by_cases h1 : 65 ≤ c ∧ c ≤ 90
  · rw [if_pos h1]
    have h2 : 65 ≤ c.toNat ∧ c.toNat ≤ 90 := by simpa [UInt8.le_iff_toNat_le] using h1
    rw [if_pos h2, UInt8.toNat_add]
    simp; omega
  · rw [if_neg h1, if_neg (by simpa [UInt8.le_iff_toNat_le] using h1)]
def Bytes (w : World) (g : Nat) (s : ByteArray) (k : Nat) : Prop :=
  (∀ j (hj : j < s.size), w.cell? ⟨g, j, none⟩ = some (.int .u8 (if j < k then ((smallB s[j]).toNat : Int) else (s[j].toNat : Int)))) ∧
  (∀ j, j < s.size → w.frozen? ⟨g, j, none⟩ = false) ∧ g < w.heap.size
theorem Bytes.step {w : World} {g : Nat} {s : ByteArray} {k : Nat} (h : Bytes w g s k) (hk : k < s.size) : Bytes (w.setCell ⟨g, k, none⟩ (.int .u8 ((smallB s[k]).toNat : Int))) g s (k + 1) := by
  refine ⟨fun j hj => ?_, fun j hj => ?_, by simpa [World.setCell] using h.2.2⟩
  · by_cases e : j = k
    · subst e
      rw [if_pos (by omega)]
      apply World.cell?_setCell_same
      exact h.1 j hj
    · have h1 := h.1 j hj
      have h2 : (w.setCell ⟨g, k, none⟩ (.int .u8 ((smallB s[k]).toNat : Int))).cell? ⟨g, j, none⟩ = w.cell? ⟨g, j, none⟩ := by
        apply World.cell?_setCell_other
        intro h0
        exact e (congrArg Addr.off h0).symm
      rw [h2, h1]
      congr 2
      by_cases h3 : j < k
      · rw [if_pos h3, if_pos (by omega)]
      · rw [if_neg h3, if_neg (by omega)]
  · have := h.2.1 j hj
    simpa using this
theorem Bytes.stay {w : World} {g : Nat} {s : ByteArray} {k : Nat} (h : Bytes w g s k) (hk : k < s.size) (e : smallB s[k] = s[k]) : Bytes w g s (k + 1) := by
  refine ⟨fun j hj => ?_, h.2.1, h.2.2⟩
  rw [h.1 j hj]
  congr 2
  by_cases h3 : j < k
  · rw [if_pos h3, if_pos (by omega)]
  · rw [if_neg h3]
    by_cases h4 : j < k + 1
    · obtain rfl : j = k := by omega
      rw [if_pos h4, e]
    · rw [if_neg h4]
theorem Bytes.conv {w : World} {g : Nat} {s : ByteArray} {k cap : Nat} (h : Bytes w g s k) (hk : s.size ≤ k) :
    (convert 145 9 (.slice (some ⟨g, 0, none⟩) s.size cap)).run Tryz.prog w = .ok (.string (small s)) w := by
  have hl : (s.data.toList.map smallB).length = s.size := by simp
  have := run_convert_bytes_back (P := Tryz.prog) w 145 9 5 ⟨g, 0, none⟩ cap (s.data.toList.map smallB) Tryz.underlying145 Tryz.underlying5 Tryz.underlying9 (by
    intro j hj
    rw [hl] at hj
    rw [Addr.add_lit, Nat.zero_add, h.1 j hj, if_pos (by omega)]
    simp
    rfl)
  rw [hl] at this
  exact this
theorem bytes_of (s : ByteArray) (w : World) : ∃ w1 cap, (convert 9 145 (.string s)).run Tryz.prog w = .ok (.slice (some ⟨w.heap.size, 0, none⟩) s.size cap) w1 ∧ (Bytes w1 w.heap.size s 0 ∧ Below w.heap.size w w1) ∧ w.heap.size < w1.heap.size := by
  refine ⟨_, _, run_bytes_of_string (P := Tryz.prog) w 9 145 5 s Tryz.underlying9 Tryz.underlying145 Tryz.underlying5, ⟨⟨?_, ?_, ?_⟩, ?_⟩, ?_⟩
  · intro j hj
    rw [if_neg (by omega)]
    have e := World.cell?_alloc_mark w.drew (bytesRow s (grownCap w s.size 0 5)) 5 ((bytesRow s (grownCap w s.size 0 5)).size, (bytesRow s (grownCap w s.size 0 5)).size + 1) j
    have e2 : w.drew.heap.size = w.heap.size := rfl
    rw [e2] at e
    rw [e]
    unfold bytesRow
    rw [Array.getElem?_append_left (by simpa using hj)]
    simp [hj]
    rfl
  · intro j hj
    have hsz : s.size ≤ (bytesRow s (grownCap w s.size 0 5)).size := by simp [bytesRow]
    unfold World.frozen?
    have e := heap_alloc_new w.drew (.cells (bytesRow s (grownCap w s.size 0 5)) 5 ((bytesRow s (grownCap w s.size 0 5)).size, (bytesRow s (grownCap w s.size 0 5)).size + 1))
    have e2 : w.drew.heap.size = w.heap.size := rfl
    rw [e2] at e
    rw [e]
    simp
    omega
  · simp
  · exact ((Below.refl _ w).drew).alloc (Nat.le_refl _) _
  · simp
theorem Small_c (s : ByteArray) (w : World) (hs : s.size ≤ 4000000) :
    Calls Tryz.prog 65 #[.string s] w fun e w' => e = .returned (.string (small s)) ∧ Below w.heap.size w w' := by
  obtain ⟨w1, cap, hrun, hbs, hsz⟩ := bytes_of s w
  have HB : Hid (Bytes w1 w.heap.size s 0) := hbs.1
  have HW : Hid (Below w.heap.size w w1) := hbs.2
  clear hbs
  go_enter Tryz.func65, Tryz.ntmps65
  go_wp2_with fail
  go_loopg [10] s.size (fun g v10 wr => ∃ k : Nat, k + g = s.size ∧ v10 = .int .i64 (k : Int) ∧ Aside (Bytes wr w.heap.size s k ∧ Below w.heap.size w wr))
  case atStart => exact ⟨0, by omega, rfl, HB.out, HW.out⟩
  case round =>
    obtain ⟨k, hk, rfl, hA⟩ := hrel
    have H1 : Hid (Bytes wr w.heap.size s k) := hA.out.1
    have H2 : Hid (Below w.heap.size w wr) := hA.out.2
    clear hA
    by_cases hlt : k < s.size
    · have hc : wr.cell? ⟨w.heap.size, k, none⟩ = some (.int .u8 (s[k].toNat : Int)) := by rw [H1.out.1 k hlt, if_neg (by omega)]
      have hf := H1.out.2.1 k hlt
      have hl := H1.out.2.2
      have hb : s[k].toNat < 256 := s[k].toNat_lt
      have HS : Hid ((smallB s[k]).toNat = if 65 ≤ s[k].toNat ∧ s[k].toNat ≤ 90 then s[k].toNat + 32 else s[k].toNat) := small_nat _
      have HK : Hid (Bytes (wr.setCell ⟨w.heap.size, k, none⟩ (.int .u8 ((smallB s[k]).toNat : Int))) w.heap.size s (k + 1)) := H1.out.step hlt
      have HN : Hid (smallB s[k] = s[k] → Bytes wr w.heap.size s (k + 1)) := H1.out.stay hlt
      have HE : Hid ((smallB s[k]).toNat = s[k].toNat → smallB s[k] = s[k]) := fun h => UInt8.toNat_inj.1 h
      generalize hn : s[k].toNat = n at *
      clear hn
      by_cases h65 : 65 ≤ n
      · by_cases h90 : n ≤ 90
        · have h65' : (65 : Int) ≤ (n : Int) := by omega
          have h90' : (n : Int) ≤ 90 := by omega
          go_wp2_with fail
          go_roundg (gk - 1)
          case measure => omega
          case rel =>
            refine ⟨k + 1, by omega, by congr 1, ?_, H2.out.setCell (Nat.le_refl _) _⟩
            have e := HS.out
            rw [if_pos ⟨h65, h90⟩] at e
            have := HK.out
            rw [e] at this
            first
            | exact this
            | (have e2 : ((n + 32 : Nat) : Int) = (n : Int) - 65 + 97 := (by omega); rw [e2] at this; exact this)
        · have h90' : (90 : Int) < (n : Int) := by omega
          have h65' : (65 : Int) ≤ (n : Int) := by omega
          go_wp2_with fail
          go_roundg (gk - 1)
          case measure => omega
          case rel => exact ⟨k + 1, by omega, by congr 1, HN.out (HE.out (by rw [HS.out, if_neg (by omega)])), H2.out⟩
      · have h65' : (n : Int) < 65 := by omega
        go_wp2_with fail
        go_roundg (gk - 1)
        case measure => omega
        case rel => exact ⟨k + 1, by omega, by congr 1, HN.out (HE.out (by rw [HS.out, if_neg (by omega)])), H2.out⟩
    · have hcv := H1.out.conv (cap := cap) (by omega)
      go_wp2_with fail
      go_ret
      exact ⟨rfl, H2.out⟩
end Go.Proofs.YtlliliddljkbfaaGreat
namespace Go.Proofs.YtlliliddljkbfaaGreat.Sp
set_option maxHeartbeats 64000000
set_option maxRecDepth 100000
def cat : List ByteArray → ByteArray
  | [] => nob
  | a :: r => a ++ cat r
structure Rule where
  at_ : Option ByteArray
  head : List Nd
  body : Option (List Nd)
def cutN (stop : Nd → Bool) : List Nd → List Nd × Option Nd × List Nd
  | [] => ([], none, [])
  | n :: r => if stop n = true then ([], some n, r) else let x := cutN stop r; (n :: x.1, x.2)
def isSemi (n : Nd) : Bool := sgnN n (b1 59)
def isBody (n : Nd) : Bool := sgnN n (b1 123)
def bodyOf : Option Nd → Option (List Nd)
  | none => none
  | some b => if isBody b = true then some b.kids else none
def passN (sheet : Bool) (n : Nd) : Bool := blankN n || (sheet && (decide (n.t.kind = 8) || decide (n.t.kind = 9)))
def rulesF : Nat → Bool → List Nd → List Rule
  | 0, _, _ => []
  | _ + 1, _, [] => []
  | f + 1, sh, n :: r =>
    if passN sh n = true then rulesF f sh r
    else if n.t.kind = 10 then
      let c := cutN (fun m => isSemi m || isBody m) r
      ⟨some n.t.word, c.1, bodyOf c.2.1⟩ :: rulesF f sh c.2.2
    else
      let c := cutN isBody (n :: r)
      match c.2.1 with
      | none => []
      | some b => ⟨none, c.1, some b.kids⟩ :: rulesF f sh c.2.2
def rules (sh : Bool) (l : List Nd) : List Rule := rulesF l.length sh l
structure Dec where
  prop : ByteArray
  val : List Nd
  imp : Bool
def custom (p : ByteArray) : Bool := decide (pk p 0 = 45) && decide (pk p 1 = 45)
def propOf (w : ByteArray) : ByteArray := if custom w = true then w else small w
def nImportant : ByteArray := ⟨#[105, 109, 112, 111, 114, 116, 97, 110, 116]⟩
def wordN (n : Nd) (w : ByteArray) : Bool := decide (n.t.kind = 14) && decide (small n.t.word = w)
def cutImp (v : List Nd) : List Nd × Bool :=
  match v.getLast? with
  | none => (v, false)
  | some x =>
    if wordN x nImportant = true then
      (match (bare v.dropLast).getLast? with
       | none => (v, false)
       | some y => if sgnN y (b1 33) = true then (bare (bare v.dropLast).dropLast, true) else (v, false))
    else (v, false)
def declOf (l : List Nd) : Option Dec :=
  match l with
  | [] => none
  | n :: r =>
    if n.t.kind ≠ 14 then none
    else match bare r with
      | [] => none
      | c :: q => if sgnN c (b1 58) = true then some ⟨propOf n.t.word, (cutImp (bare q)).1, (cutImp (bare q)).2⟩ else none
def declsF : Nat → List Nd → List Dec
  | 0, _ => []
  | _ + 1, [] => []
  | f + 1, n :: r =>
    if blankN n || isSemi n then declsF f r
    else if n.t.kind = 10 then declsF f (cutN (fun m => isSemi m || isBody m) r).2.2
    else
      let c := cutN isSemi (n :: r)
      match declOf c.1 with
      | none => declsF f c.2.2
      | some d => d :: declsF f c.2.2
def decls (l : List Nd) : List Dec := declsF l.length l
def hexD (n : Nat) : UInt8 := if n < 10 then UInt8.ofNat (48 + n) else UInt8.ofNat (87 + n)
def escO (c : UInt8) : ByteArray := ⟨#[92, hexD (c.toNat / 16), hexD (c.toNat % 16), 32]⟩
def plainL (c : UInt8) : Bool := (decide (97 ≤ c.toNat) && decide (c.toNat ≤ 122)) || (decide (65 ≤ c.toNat) && decide (c.toNat ≤ 90))
def plainD (c : UInt8) : Bool := decide (48 ≤ c.toNat) && decide (c.toNat ≤ 57)
def plainN (w : ByteArray) (i : Nat) (c : UInt8) : Bool :=
  if plainD c = true then !(i == 0 || (i == 1 && pk w 0 == 45))
  else if c = 45 then !(w.size == 1)
  else plainL c || c == 95
def outF (ok : Nat → UInt8 → Bool) : Nat → List UInt8 → ByteArray
  | _, [] => nob
  | i, c :: r => (if ok i c = true then b1 c else escO c) ++ outF ok (i + 1) r
def nameO (w : ByteArray) : ByteArray := outF (plainN w) 0 w.data.toList
def unitO (w : ByteArray) : ByteArray := outF (fun i c => plainN w i c && !(i == 0 && (c == 101 || c == 69))) 0 w.data.toList
def plainT (c : UInt8) : Bool := decide (32 ≤ c.toNat) && decide (c.toNat ≤ 126) && !(c == 34 || c == 92 || c == 60 || c == 62)
def quoO : ByteArray := b1 34
def textO (w : ByteArray) : ByteArray := quoO ++ (outF (fun _ c => plainT c) 0 w.data.toList ++ quoO)
def plainK (c : UInt8) : Bool := plainL c || plainD c || c == 46 || c == 47 || c == 58 || c == 45
def urlO : ByteArray := ⟨#[117, 114, 108, 40]⟩
def linkO (w : ByteArray) : ByteArray := urlO ++ (outF (fun _ c => plainK c) 0 w.data.toList ++ b1 41)
def openO : ByteArray := ⟨#[60, 33, 45, 45]⟩
def closeO : ByteArray := ⟨#[45, 45, 62]⟩
def badTO : ByteArray := ⟨#[34, 10]⟩
def badLO : ByteArray := ⟨#[117, 114, 108, 40, 40, 41]⟩
def midO : ByteArray := ⟨#[47, 42, 42, 47]⟩
def softW (w : ByteArray) : Bool := decide (w = b1 44) || decide (w = b1 58) || decide (w = b1 59) || decide (w = b1 41) || decide (w = b1 93) || decide (w = b1 125)
def softT (t : Tok) : Bool := decide (t.kind = 1) || (decide (t.kind = 15) && softW t.word)
def parts (a b : Tok) : Bool := !softT a && !softT b && decide (closing a = nob) && !signT b (b1 91) && !signT b (b1 123)
def oneO (t : Tok) (inn : ByteArray) : ByteArray :=
  if t.kind = 1 then b1 32
  else if t.kind = 2 then textO t.word
  else if t.kind = 3 then badTO
  else if t.kind = 4 then b1 35 ++ nameO t.word
  else if t.kind = 6 then t.word ++ b1 37
  else if t.kind = 7 then t.word ++ unitO t.unit
  else if t.kind = 8 then openO
  else if t.kind = 9 then closeO
  else if t.kind = 10 then b1 64 ++ nameO t.word
  else if t.kind = 11 then nameO t.word ++ (b1 40 ++ (inn ++ b1 41))
  else if t.kind = 12 then linkO t.word
  else if t.kind = 13 then badLO
  else if t.kind = 14 then nameO t.word
  else if t.kind = 15 then t.word ++ (inn ++ closing t)
  else t.word
def gapO (a : Option Tok) (b : Tok) : ByteArray := match a with | none => nob | some a => if parts a b = true then midO else nob
def twoB (a : Option Tok) (b : Tok) : Bool := match a with | none => false | some a => decide (a.kind = 1) && decide (b.kind = 1)
mutual
def writN : Nd → ByteArray
  | .mk t k => oneO t (writF none k)
def writF : Option Tok → List Nd → ByteArray
  | _, [] => nob
  | a, n :: r => (if twoB a n.t = true then nob else gapO a n.t ++ writN n) ++ writF (some n.t) r
end
def written (l : List Nd) : ByteArray := writF none l
structure Wt where
  a : Nat
  b : Nat
  c : Nat
def Wt.zero : Wt := ⟨0, 0, 0⟩
def Wt.add (x y : Wt) : Wt := ⟨x.a + y.a, x.b + y.b, x.c + y.c⟩
def Wt.less (x y : Wt) : Bool := if x.a ≠ y.a then decide (x.a < y.a) else if x.b ≠ y.b then decide (x.b < y.b) else decide (x.c < y.c)
def Wt.most (x y : Wt) : Wt := if x.less y = true then y else x
mutual
def wtS : Simple → Wt
  | .mk kind name _ _ list _ =>
    if kind = 35 then ⟨1, 0, 0⟩
    else if kind = 116 then (if name = nob then Wt.zero else ⟨0, 0, 1⟩)
    else if kind = 58 ∧ (name = nNot ∨ name = nIs) then wtL Wt.zero list
    else ⟨0, 1, 0⟩
def wtA : List Simple → Wt
  | [] => Wt.zero
  | s :: r => (wtS s).add (wtA r)
def wtT : Nat × List Simple → Wt
  | (_, all) => wtA all
def wtC : List (Nat × List Simple) → Wt
  | [] => Wt.zero
  | t :: r => (wtT t).add (wtC r)
def wtL : Wt → List (List (Nat × List Simple)) → Wt
  | best, [] => best
  | best, c :: r => wtL (best.most (wtC c)) r
end
abbrev SRule := Sels × List Dec
def styleOf (r : Rule) : Option SRule :=
  match r.at_, r.body with
  | none, some b => (sels r.head).map (fun s => (s, decls b))
  | _, _ => none
def stylesOf (l : List Nd) : List SRule := (rules true l).filterMap styleOf
def fitsW (p : Page) (e : Nat) : Option Wt → Sels → Option Wt
  | w, [] => w
  | w, c :: r => fitsW p e (if onC p c none e = true then (match w with | none => some (wtC c) | some x => some (x.most (wtC c))) else w) r
structure Win where
  imp : Bool
  wt : Wt
  val : List Nd
def beats (d : Dec) (w : Wt) : Option Win → Bool
  | none => true
  | some b => if d.imp ≠ b.imp then d.imp else !(w.less b.wt)
def winD (q : ByteArray) (w : Wt) : Option Win → List Dec → Option Win
  | best, [] => best
  | best, d :: r => winD q w (if decide (d.prop = q) && beats d w best then some ⟨d.imp, w, d.val⟩ else best) r
def winF (p : Page) (e : Nat) (q : ByteArray) : Option Win → List SRule → Option Win
  | best, [] => best
  | best, r :: rs => winF p e q (match fitsW p e none r.1 with | none => best | some w => winD q w best r.2) rs
def winner (p : Page) (rs : List SRule) (e : Nat) (q : ByteArray) : Option Win := winF p e q none rs
def nVar : ByteArray := ⟨#[118, 97, 114]⟩
def nInherit : ByteArray := ⟨#[105, 110, 104, 101, 114, 105, 116]⟩
def nUnset : ByteArray := ⟨#[117, 110, 115, 101, 116]⟩
def nInitial : ByteArray := ⟨#[105, 110, 105, 116, 105, 97, 108]⟩
def nColor : ByteArray := ⟨#[99, 111, 108, 111, 114]⟩
def nFont : ByteArray := ⟨#[102, 111, 110, 116, 45, 115, 105, 122, 101]⟩
def nQuotes : ByteArray := ⟨#[113, 117, 111, 116, 101, 115]⟩
def isWord (v : List Nd) (w : ByteArray) : Bool := match v with | [n] => wordN n w | _ => false
mutual
def anyN (g : Tok → Bool) : Nd → Bool
  | .mk t k => g t || anyL g k
def anyL (g : Tok → Bool) : List Nd → Bool
  | [] => false
  | n :: r => anyN g n || anyL g r
end
def badT (t : Tok) : Bool := decide (t.kind = 3) || decide (t.kind = 13)
def varT (t : Tok) : Bool := decide (t.kind = 11) && decide (small t.word = nVar)
def varOf (k : List Nd) : Option (ByteArray × Option (List Nd)) :=
  match dropB k with
  | [] => none
  | n :: r =>
    if n.t.kind = 14 ∧ custom n.t.word = true then
      (match dropB r with
       | [] => some (n.t.word, none)
       | c :: q => if sgnN c (b1 44) = true then some (n.t.word, some (bare q)) else none)
    else none
mutual
def namesN : Nd → List ByteArray
  | .mk t k => (if varT t = true then (match varOf k with | some (w, _) => [w] | none => []) else []) ++ namesL k
def namesL : List Nd → List ByteArray
  | [] => []
  | n :: r => namesN n ++ namesL r
end
def handed (q : ByteArray) : Bool := custom q || decide (q = nColor) || decide (q = nFont) || decide (q = nQuotes)
def addTo : List ByteArray → List ByteArray → List ByteArray
  | met, [] => met
  | met, n :: r => addTo (if met.contains n = true then met else met ++ [n]) r
def turnsF (nb : ByteArray → List ByteArray) (q : ByteArray) : Nat → Nat → List ByteArray → Bool
  | 0, _, _ => false
  | f + 1, i, met => match met[i]? with
    | none => false
    | some n => if n = q then true else turnsF nb q f (i + 1) (addTo met (nb n))
def rawN (s : ByteArray) : Nd := .mk (Tok.w 99 s) []
def mapO (h : Nd → Option Nd) : List Nd → Option (List Nd)
  | [] => some []
  | n :: r => match h n with | none => none | some m => (mapO h r).map (fun x => m :: x)
def expN (g : ByteArray → ByteArray) : Nat → Nd → Option Nd
  | 0, n => some (.mk n.t [])
  | f + 1, n =>
    if varT n.t = true then
      (match varOf n.kids with
       | none => none
       | some (w, fb) =>
         if g w ≠ nob then some (rawN (g w))
         else match fb with
           | none => none
           | some b => (mapO (expN g f) b).map (fun x => rawN (written x)))
    else (mapO (expN g f) n.kids).map (fun k => .mk n.t k)
def expL (g : ByteArray → ByteArray) (l : List Nd) : Option (List Nd) := mapO (expN g (depth l)) l
section
variable (p : Page) (rs : List SRule)
def namedBy (e : Nat) (q : ByteArray) : List ByteArray := match winner p rs e q with | none => [] | some w => namesL w.val
def allNames : List ByteArray := rs.flatMap (fun r => r.2.flatMap (fun d => namesL d.val))
def turns (e : Nat) (q : ByteArray) : Bool := turnsF (namedBy p rs e) q (2 * (allNames rs).length + 1) 0 (namedBy p rs e q)
def comesW (rec : Nat → ByteArray → ByteArray) (e : Nat) (q : ByteArray) : ByteArray :=
  let par := if parentOf p e < 0 then nob else rec (parentOf p e).toNat q
  let down := if handed q = true then par else nob
  match winner p rs e q with
  | none => down
  | some w =>
    if isWord w.val nInherit = true then par
    else if isWord w.val nInitial = true then nob
    else if isWord w.val nUnset || anyL badT w.val then down
    else if anyL varT w.val = false then written w.val
    else if custom q && turns p rs e q then nob
    else match expL (rec e) w.val with
      | none => down
      | some l => if (written l).size ≤ 400 then written l else down
def comesF : Nat → Nat → ByteArray → ByteArray
  | 0, _, _ => nob
  | f + 1, e, q => comesW p rs (comesF f) e q
def comes (e : Nat) (q : ByteArray) : ByteArray := comesF p rs ((e + 1) * ((allNames rs).length + 2)) e q
end
def sheetN (s : ByteArray) : List Nd := nodes (toks (clean s))
def computedA (p : Page) (sheets : List ByteArray) (e : Int) (q : ByteArray) : ByteArray × Int :=
  if ¬ (pageP p = true ∧ 0 ≤ e ∧ e < p.length) then (nob, 4)
  else if 4 < sheets.length ∨ 100 < q.size ∨ sheets.any (fun s => decide (600 < s.size)) = true then (nob, 1)
  else if sheets.any (fun s => decide (8 < depth (sheetN s))) = true then (nob, 2)
  else (comes p (sheets.flatMap (fun s => stylesOf (sheetN s))) e.toNat (propOf q), 0)
structure Policy where
  root : ByteArray
  props : List ByteArray
  funs : List ByteArray
  ats : List ByteArray
  cust : Bool
  texts : Bool
def lowB (c : UInt8) : Bool := decide (97 ≤ c.toNat) && decide (c.toNat ≤ 122)
def polName (s : ByteArray) : Bool := s.data.toList.all (fun c => lowB c || c == 45) && decide (1 ≤ s.size) && decide (s.size ≤ 30)
def polP (p : Policy) : Bool :=
  p.root.data.toList.all lowB && decide (p.root.size ≤ 12) &&
  (decide (p.props.length ≤ 20) && p.props.all (fun s => polName s && !(pk s 0 == 45))) &&
  (decide (p.funs.length ≤ 20) && p.funs.all polName) && (decide (p.ats.length ≤ 20) && p.ats.all polName)
def okSignW (w : ByteArray) : Bool := decide (w = b1 43) || decide (w = b1 45) || decide (w = b1 42) || decide (w = b1 47) || decide (w = b1 46) || decide (w = b1 44) || decide (w = b1 37) || decide (w = b1 61) || decide (w = b1 58)
def harmT (p : Policy) (t : Tok) : Bool :=
  if t.kind = 3 ∨ t.kind = 12 ∨ t.kind = 13 ∨ t.kind = 10 ∨ t.kind = 8 ∨ t.kind = 9 then false
  else if t.kind = 15 then !decide (closing t = nob) || okSignW t.word
  else if t.kind = 2 then p.texts
  else if t.kind = 11 then p.funs.contains (small t.word)
  else true
def harmL (p : Policy) (l : List Nd) : Bool := !anyL (fun t => !harmT p t) l
structure DecT where
  dO : Nat → ByteArray
  pos : ∀ n, n ≤ 1000 → 0 < (dO n).size
  sz : ∀ n, n ≤ 1000 → (dO n).size ≤ 100
  dig : ∀ n, n ≤ 999 → ∀ c ∈ (dO n).data.toList, digI (c.toNat : Int) = true
abbrev DecI := Inhabited DecT
def decO [DecI] (n : Nat) : ByteArray := (default : DecT).dO n
def combO (b : Nat) : ByteArray := if b = 32 then b1 32 else if b = 62 ∨ b = 43 ∨ b = 126 then b1 32 ++ (b1 (UInt8.ofNat b) ++ b1 32) else nob
def attrO (name how value : ByteArray) : ByteArray := if how = nob then b1 91 ++ (nameO name ++ b1 93) else b1 91 ++ (nameO name ++ (how ++ (textO value ++ b1 93)))
mutual
def simO [DecI] : Simple → ByteArray
  | .mk kind name how value list place =>
    if kind = 116 then (if name = nob then b1 42 else nameO name)
    else if kind = 35 then b1 35 ++ nameO name
    else if kind = 46 then b1 46 ++ nameO name
    else if kind = 91 then attrO name how value
    else if name = nNot ∨ name = nIs then b1 58 ++ (name ++ (b1 40 ++ (listO nob list ++ b1 41)))
    else if name = nNth then b1 58 ++ (name ++ (b1 40 ++ ((if place = 0 then nOdd else if place = 1 then nEven else decO (place - 2)) ++ b1 41)))
    else b1 58 ++ name
def allO [DecI] : List Simple → ByteArray
  | [] => nob
  | s :: r => simO s ++ allO r
def stpO [DecI] : Nat × List Simple → ByteArray
  | (b, all) => combO b ++ allO all
def cpxO [DecI] : List (Nat × List Simple) → ByteArray
  | [] => nob
  | t :: r => stpO t ++ cpxO r
def listO [DecI] (ahead : ByteArray) : List (List (Nat × List Simple)) → ByteArray
  | [] => nob
  | c :: r => ahead ++ (cpxO c ++ tailO ahead r)
def tailO [DecI] (ahead : ByteArray) : List (List (Nat × List Simple)) → ByteArray
  | [] => nob
  | c :: r => b1 44 ++ (ahead ++ (cpxO c ++ tailO ahead r))
end
def impO : ByteArray := ⟨#[33, 105, 109, 112, 111, 114, 116, 97, 110, 116]⟩
def decK (p : Policy) (d : Dec) : Bool := (if custom d.prop = true then p.cust else p.props.contains d.prop) && harmL p d.val && !d.val.isEmpty
def decT (d : Dec) : ByteArray := nameO d.prop ++ (b1 58 ++ (written d.val ++ (if d.imp = true then impO else nob)))
def joinO (sep : ByteArray) : List ByteArray → ByteArray
  | [] => nob
  | [a] => a
  | a :: b :: r => a ++ (sep ++ joinO sep (b :: r))
def bodyO (p : Policy) (l : List Nd) : ByteArray := joinO (b1 59) (((decls l).filter (decK p)).map decT)
def aheadO (p : Policy) : ByteArray := if p.root = nob then nob else b1 46 ++ (p.root ++ b1 32)
def styleO [DecI] (p : Policy) (r : Rule) (b : List Nd) : ByteArray :=
  match sels r.head with
  | none => nob
  | some s => if bodyO p b = nob then nob else listO (aheadO p) s ++ (b1 123 ++ (bodyO p b ++ b1 125))
def headO (h : List Nd) : ByteArray := if h = [] then nob else b1 32 ++ written h
def ruleO [DecI] (p : Policy) (rec : List Nd → ByteArray) (r : Rule) : ByteArray :=
  match r.at_, r.body with
  | some w, some b =>
    if p.ats.contains (small w) = true ∧ harmL p (bare r.head) = true then
      (if rec b = nob then nob else b1 64 ++ (nameO (small w) ++ (headO (bare r.head) ++ (b1 123 ++ (rec b ++ b1 125)))))
    else nob
  | none, some b => styleO p r b
  | _, none => nob
def rinF [DecI] (p : Policy) : Nat → Bool → List Nd → ByteArray
  | 0, sh, l => cat ((rules sh l).map (ruleO p (fun _ => nob)))
  | f + 1, sh, l => cat ((rules sh l).map (ruleO p (rinF p f false)))
def rinseA [DecI] (s : ByteArray) (p : Policy) : ByteArray × Int :=
  if polP p = false then (nob, 5)
  else if 600 < s.size then (nob, 1)
  else if 8 < depth (sheetN s) then (nob, 2)
  else (rinF p (depth (sheetN s)) true (sheetN s), 0)
end Go.Proofs.YtlliliddljkbfaaGreat.Sp
namespace Go.Proofs.YtlliliddljkbfaaGreat.Sp
set_option maxHeartbeats 64000000
set_option maxRecDepth 100000
open Go
def pre (s : ByteArray) : Nat → List UInt8 → Bool
  | _, [] => true
  | i, a :: r => pk s i == (a.toNat : Int) && pre s (i + 1) r
theorem drop_cons {s : ByteArray} {i : Nat} (h : i < s.size) : s.data.toList.drop i = s[i] :: s.data.toList.drop (i + 1) := by
  rw [List.drop_eq_getElem_cons (by simpa using h)]; rfl
theorem byte_eq (a b : UInt8) : ((a.toNat : Int) == (b.toNat : Int)) = (b == a) := by
  rw [Bool.eq_iff_iff]
  simp only [beq_iff_eq]
  constructor
  · intro h; exact (UInt8.toNat_inj.1 (by omega)).symm
  · intro h; rw [h]
theorem pre_drop (s : ByteArray) : ∀ (l : List UInt8) (i : Nat), l.isPrefixOf (s.data.toList.drop i) = pre s i l
  | [], i => by simp [pre]
  | a :: r, i => by
    by_cases h : i < s.size
    · rw [drop_cons h, List.isPrefixOf, pre_drop s r (i + 1), pre, pk_in h, byte_eq]
    · have : s.data.toList.drop i = [] := List.drop_eq_nil_of_le (by simpa using h)
      rw [this, pre, pk_out (by omega)]
      have : ((-1 : Int) == (a.toNat : Int)) = false := by rw [beq_eq_false_iff_ne]; omega
      rw [this]
      simp
theorem has_pre (s : ByteArray) (i : Nat) (l : ByteArray) : Lib.hasPrefix (s.extract i s.size).data.toList l.data.toList = pre s i l.data.toList := by
  rw [Lib.extract_to_end, Lib.hasPrefix, pre_drop]
theorem index_starF (s : ByteArray) : ∀ f k, s.size ≤ k + f → k ≤ s.size → Lib.index (s.data.toList.drop k) [42, 47] = if starF s f k < s.size then ((starF s f k : Nat) : Int) - k else -1
  | 0, k, h, h' => by
    have : s.data.toList.drop k = [] := List.drop_eq_nil_of_le (by simp; exact h)
    rw [this, starF, if_neg (by omega)]; rfl
  | f + 1, k, h, h' => by
    by_cases hk : k < s.size
    · have hp : ([42, 47] : List UInt8).isPrefixOf (s[k] :: s.data.toList.drop (k + 1)) = (pk s k == 42 && pk s (k + 1) == 47) := by
        rw [← drop_cons hk, pre_drop]; simp [pre]
      rw [drop_cons hk, Lib.index, hp]
      by_cases hs : pk s k = 42 ∧ pk s (k + 1) = 47
      · have e1 : starF s (f + 1) k = k := by unfold starF; rw [if_neg (fun h => h.2 hs)]
        have e2 : (pk s k == 42 && pk s (k + 1) == 47) = true := by simp [hs]
        rw [e1, e2, if_pos rfl, if_pos hk]; omega
      · have e1 : starF s (f + 1) k = starF s f (k + 1) := by
          conv => lhs; unfold starF
          rw [if_pos ⟨hk, hs⟩]
        have e2 : (pk s k == 42 && pk s (k + 1) == 47) = false := by
          rw [Bool.eq_false_iff]; intro h; exact hs (by simpa using h)
        have hge := starF_ge s f (k + 1)
        rw [e1, e2, if_neg (by simp), index_starF s f (k + 1) (by omega) (by omega)]
        by_cases h2 : starF s f (k + 1) < s.size
        · rw [if_pos h2, if_pos h2, if_neg (by rw [beq_iff_eq]; omega)]; omega
        · rw [if_neg h2, if_neg h2, if_pos (by rfl)]
    · have hd : s.data.toList.drop k = [] := List.drop_eq_nil_of_le (by simp; omega)
      have hge := starF_ge s (f + 1) k
      rw [hd, if_neg (by omega)]; rfl
theorem index_star {s : ByteArray} {k : Nat} (h : k ≤ s.size) : Lib.index (s.extract k s.size).data.toList [42, 47] = if star s k < s.size then ((star s k : Nat) : Int) - k else -1 := by
  rw [Lib.extract_to_end]
  exact index_starF s s.size k (by omega) h
theorem index_star_in {s : ByteArray} {k : Nat} (h : k ≤ s.size) (h' : star s k < s.size) : Lib.index (s.extract k s.size).data.toList [42, 47] = ((star s k : Nat) : Int) - k := by
  rw [index_star h, if_pos h']
theorem index_star_out {s : ByteArray} {k : Nat} (h : k ≤ s.size) (h' : s.size ≤ star s k) : Lib.index (s.extract k s.size).data.toList [42, 47] = -1 := by
  rw [index_star h, if_neg (by omega)]
end Go.Proofs.YtlliliddljkbfaaGreat.Sp
namespace Go.Proofs.YtlliliddljkbfaaGreat
set_option maxHeartbeats 64000000
set_option maxRecDepth 100000
open Go.RowKit Sp
def a0 (s : ByteArray) (k : Nat) : Int := if k < s.size then pk s k else 0
end Go.Proofs.YtlliliddljkbfaaGreat
namespace Go.Proofs.YtlliliddljkbfaaGreat
set_option maxHeartbeats 64000000
set_option maxRecDepth 100000
open Go
def fwdQ (P : Program) (c : Code) (Q : Exit → Act → World → Prop) : Exit → Act → World → Prop
  | .goto l, a, w => ∃ rest, findLabel c l = some rest ∧ rest.wp P (Exit.noGoto Q) a w
  | e, a, w => Q e a w
structure Fwd (P : Program) (c : Code) (Q Q' : Exit → Act → World → Prop) : Prop where
  go : ∀ l rest a w, findLabel c l = some rest → rest.wp P (Exit.noGoto Q) a w → Q' (.goto l) a w
  norm : ∀ a w, Q .normal a w → Q' .normal a w
  ret : ∀ a w, Q .ret a w → Q' .ret a w
  any : ∀ e a w, Exit.noGoto Q e a w → Q' e a w
theorem wp_scope_fwd {P : Program} {c : Code} {Q : Exit → Act → World → Prop} {a : Act} {w : World}
    (h : ∀ Q' : Exit → Act → World → Prop, Fwd P c Q Q' → c.wp P Q' a w) : (Code.scope c).wp P Q a w := by
  have h' := h (fwdQ P c Q) ⟨fun l rest a w hf hr => ⟨rest, hf, hr⟩, fun a w hq => hq, fun a w hq => hq, fun e a w hq => by cases e <;> first | exact hq | exact hq.elim⟩
  intro b k cs
  obtain ⟨e, a₁, w₁, hq, harr⟩ := h' b (.inScope c :: k) cs
  cases e with
  | normal => exact ⟨.normal, a₁, w₁, hq, .head step_scope (Steps.trans harr (.one step_inScope))⟩
  | exit id => exact ⟨.exit id, a₁, w₁, hq, fun k' hk => .head step_scope (harr k' (by simp [exitTo, hk]))⟩
  | goto l =>
    obtain ⟨rest, hf, hr⟩ := hq
    have hg : gotoIn l (.inScope c :: k) = some (.code rest :: .inScope c :: k) := by simp [gotoIn, hf]
    obtain ⟨e₂, a₂, w₂, hq₂, harr₂⟩ := hr b (.inScope c :: k) cs
    have hs := Steps.head (P := P) step_scope (harr _ hg)
    cases e₂ with
    | normal => exact ⟨.normal, a₂, w₂, hq₂, Steps.trans hs (Steps.trans harr₂ (.one step_inScope))⟩
    | exit id => exact ⟨.exit id, a₂, w₂, hq₂, fun k' hk => Steps.trans hs (harr₂ k' (by simp [exitTo, hk]))⟩
    | goto l' => exact hq₂.elim
    | ret => exact ⟨_, a₂, w₂, hq₂, .of_steps hs harr₂⟩
    | panic ch => exact ⟨_, a₂, w₂, hq₂, .of_steps hs harr₂⟩
    | outgrown => exact ⟨_, a₂, w₂, hq₂, .of_steps hs harr₂⟩
  | ret => exact ⟨_, a₁, w₁, hq, .of_steps (.one step_scope) harr⟩
  | panic ch => exact ⟨_, a₁, w₁, hq, .of_steps (.one step_scope) harr⟩
  | outgrown => exact ⟨_, a₁, w₁, hq, .of_steps (.one step_scope) harr⟩
end Go.Proofs.YtlliliddljkbfaaGreat
