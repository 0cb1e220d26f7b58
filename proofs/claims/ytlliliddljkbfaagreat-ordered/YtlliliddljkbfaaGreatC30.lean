import Derived.Test.YtlliliddljkbfaaGreatC8
import Derived.Test.YtlliliddljkbfaaGreatC26
import Derived.Test.YtlliliddljkbfaaGreatC29
namespace Go.Proofs.YtlliliddljkbfaaGreat
set_option maxHeartbeats 64000000
set_option maxRecDepth 100000
open Go.RowKit Sp
section
attribute [local go_sem] fld_tok fld_ins fld_kind fld_word
def CDv : Law (Dec × Value) := fun _ _ x cs => cs = [.string x.1.prop, x.2, .bool x.1.imp]
theorem CDv.fair : Fair CDv := fun _ _ _ _ _ _ _ _ h => h
theorem CDv.sized : Sized CDv 3 := by rintro S w x cs rfl; rfl
def DvOK (B : Nat) (w : World) (x : Dec × Value) : Prop := (∃ va vc, x.2 = .slice va x.1.val.length vc) ∧ Sl (fun b => b < B) w x.2 x.1.val ∧ x.1.prop.size ≤ 4000000
theorem cat_v {B : Nat} {S : Nat → Prop} {w : World} : ∀ {l : List Dec} {cs : List Value}, CatG CDec (fun b => b < B) w l cs → ∃ xs : List (Dec × Value), xs.map Prod.fst = l ∧ CatG CDv S w xs cs ∧ ∀ x ∈ xs, DvOK B w x
  | [], _, h => ⟨[], rfl, h, by simp⟩
  | d :: _, _, ⟨c, rest, e, ⟨vv, h1, h2, h3⟩, h4⟩ => by
    obtain ⟨xs, e1, e2, e3⟩ := cat_v (S := S) h4
    refine ⟨(d, vv) :: xs, by rw [List.map_cons, e1], ⟨c, rest, e, h1, e2⟩, ?_⟩
    intro x hx
    rcases List.mem_cons.1 hx with rfl | hx
    · exact ⟨h2.form, h2, h3⟩
    · exact e3 x hx
theorem dv_done {B : Nat} {w : World} {base : Nat} {u : Value} {acc : List Dec} {cs : List Value} (h1 : w.ownsRow base 181 3 u acc.length cs) (h2 : CatG CDec (fun b => b < B) w acc cs) (h6 : acc.length ≤ 2097152) :
    ∃ xs : List (Dec × Value), xs.map Prod.fst = acc ∧ SG CDv 3 (Frm base w) w u xs ∧ ∀ x ∈ xs, DvOK B w x := by
  obtain ⟨xs, e1, e2, e3⟩ := cat_v (S := Oth base w u) h2
  have hl : xs.length = acc.length := by rw [← e1, List.length_map]
  exact ⟨xs, e1, (show MG CDv 3 181 base w u xs from ⟨cs, by rw [hl]; exact h1, e2⟩).sl CDv.fair CDv.sized (by omega), e3⟩
theorem Declarations_d (B : Nat) (l : List Nd) (v : Value) (w : World) (h : Sl (fun b => b < B) w v l) (hB : B ≤ w.heap.size) :
    Calls Tryz.prog 93 #[v] w fun e w' => ∃ u, e = .returned u ∧ (∃ xs : List (Dec × Value), xs.map Prod.fst = decls l ∧ SG CDv 3 (Frm w.heap.size w') w' u xs ∧ ∀ x ∈ xs, DvOK B w' x) ∧ Below w.heap.size w w' := by
  have hl6 := h.len
  have HS : Hid (Sl (fun b => b < B) w v l) := h
  obtain ⟨a, cap, rfl⟩ := h.form
  clear h
  obtain ⟨iT, hiT⟩ := info_dec
  have HI : Hid (Tryz.prog.info? 181 = some iT ∧ iT.zero = some (.agg #[.string ⟨#[]⟩, .slice none 0 0, .bool false]) ∧ iT.size = 3 ∧ iT.bytes = 48) := hiT
  clear hiT
  go_enter Tryz.func93, Tryz.ntmps93
  go_wp2_with fail
  go_loopg [0, 3] l.length (fun gg v0 v3 wr => ∃ (u cv : Value) (acc : List Dec) (cs : List Value) (cur : List Nd), u = v3 ∧ cv = v0 ∧ cur.length ≤ gg ∧ acc.length ≤ 600 ∧ Aside (DcI B w l u acc cs cv cur wr))
  case atStart => exact ⟨_, _, [], [], l, rfl, rfl, by omega, by simp, World.ownsRow_nil _ _ _ _, rfl, HS.out, Below.refl _ _, rfl, by simp⟩
  case round =>
    obtain ⟨u, cv, acc, cs, cur, rfl, rfl, hcl, hal, hA⟩ := hrel
    have HR : Hid (DcI B w l u acc cs cv cur wr) := hA.out
    clear hA
    obtain ⟨ua, uc, rfl⟩ := own_form HR.out.row
    have hsr := HR.out.below.size
    cases cur with
    | nil =>
      obtain ⟨ca, cc, rfl⟩ := HR.out.now.form
      have HV : Hid (decls l = acc) := by show _ = _; rw [HR.out.eq]; exact List.append_nil _
      go_wp2_with fail
      go_ret
      exact ⟨_, rfl, by rw [HV.out]; exact dv_done HR.out.row HR.out.cat (by omega), HR.out.below⟩
    | cons n r =>
      obtain ⟨g, o, nv, cap', rfl, hN, hcap⟩ := HR.out.now.head
      have c0 := hN.c0
      clear hN
      have h1 : (0 : Int) < ((r.length + 1 : Nat) : Int) := by omega
      simp only [List.length_cons] at hcl
      have hln := HR.out.ln
      simp only [List.length_cons] at hln
      cases hk1 : (n.t.kind == 1)
      · have nk1 : ¬ n.t.kind = 1 := by simpa using hk1
        cases hk10 : (n.t.kind == 10)
        · have nk10 : ¬ n.t.kind = 10 := by simpa using hk10
          obtain ⟨c, Hc⟩ : ∃ c, Hid (cutN isSemi (n :: r) = c) := ⟨_, hid rfl⟩
          have HEQ : Hid (decls l = acc ++ ((declOf c.1).toList ++ decls c.2.2)) := by show _ = _; rw [HR.out.eq, decls_other nk1 nk10, Hc.out]
          have hrl : c.2.2.length ≤ r.length := by have := cutN_len isSemi (n :: r); rw [Hc.out] at this; simp only [List.length_cons] at this; omega
          have Hstop : Hid (stopB [⟨#[59]⟩] = isSemi) := funext stopS
          clear nk1 nk10
          have B1 : Hid (Below wr.heap.size wr (wr.alloc (.cells #[.string ⟨#[59]⟩] 9))) := (Below.refl _ _).alloc (Nat.le_refl _) _
          have HZC : Hid (∀ j, j < 1 → (wr.alloc (.cells #[.string ⟨#[59]⟩] 9)).cell? ⟨wr.heap.size, 0 + j, none⟩ = some (.string ([(⟨#[59]⟩ : ByteArray)].getD j ByteArray.empty))) := by
            intro j hj
            have hh : (wr.alloc (.cells #[.string ⟨#[59]⟩] 9)).heap[wr.heap.size]? = _ := heap_alloc_new wr _
            unfold World.cell?
            rw [hh]
            obtain rfl : j = 0 := by omega
            rfl
          go_wp2_with fail
          have hs1 := B1.out.size
          have hlt1 : wr.heap.size < (wr.alloc (.cells #[.string ⟨#[59]⟩] 9)).heap.size := by simp
          generalize wr.alloc (.cells #[.string ⟨#[59]⟩] 9) = w1 at *
          refine (Cut_c B (n :: r) _ [⟨#[59]⟩] _ w1 (HR.out.now.below B1.out (by omega)) (by omega) (by simp) hlt1 HZC.out).mono ?_
          rw [Hstop.out, Hc.out]
          rintro e w2 ⟨v1, sv, v2, rfl, hcut, hb2⟩
          obtain ⟨t, ka, ks, kc, rfl, hks, hsome, hbody⟩ := hcut.val
          obtain ⟨va, vc, rfl⟩ := hcut.ahead.form
          obtain ⟨ba, bc, rfl⟩ := hcut.behind.form
          have X2 : Hid (Below wr.heap.size wr w2) := B1.out.trans (hb2.mono hs1)
          have HA : Hid (Sl (fun b => b < B) w2 (.slice va c.1.length vc) c.1) := hcut.ahead
          have HBH : Hid (Sl (fun b => b < B) w2 (.slice ba c.2.2.length bc) c.2.2) := hcut.behind
          have hs2 := X2.out.size
          clear hcut hks hsome hbody hb2 HZC hlt1 B1 c0
          unfold nodV
          go_wp2_with fail
          refine (readDeclaration_c B c.1 _ w2 HA.out (by omega)).mono ?_
          rintro e w3 ⟨hdc, hb3⟩
          have X3 : Hid (Below wr.heap.size wr w3) := X2.out.trans (hb3.mono hs2)
          have HB3 : Hid (Sl (fun b => b < B) w3 (.slice ba c.2.2.length bc) c.2.2) := HBH.out.below hb3 (by omega)
          have hs3 := X3.out.size
          clear hb3
          cases hd : declOf c.1 with
          | none =>
            rw [hd] at hdc
            have hdc' : e = _ := hdc
            subst hdc'
            have X4 : Hid (Below wr.heap.size wr (w3.alloc (.cells #[.string ⟨#[]⟩, .slice none 0 0, .bool false] 181))) := X3.out.alloc hs3 _
            have HC4 : Hid (DcI B w l (.slice ua acc.length uc) acc cs (.slice ba c.2.2.length bc) c.2.2 (w3.alloc (.cells #[.string ⟨#[]⟩, .slice none 0 0, .bool false] 181))) := ⟨own_keep HR.out.row fun k hk => X4.out.block k (HR.out.row.lt k hk).2, HR.out.cat.keep CDec.fair (fun _ h => h) (fun k hk => by have hk' : k < B := hk; exact X4.out.block k (by omega)), HB3.out.below ((Below.refl _ _).alloc (Nat.le_refl _) _) (by omega), HR.out.below.trans (X4.out.mono hsr), by rw [HEQ.out, hd]; rfl, by omega⟩
            clear hd
            go_wp2_with fail
            go_roundg (gk - 1)
            case measure => omega
            case rel => exact ⟨_, _, acc, cs, c.2.2, rfl, rfl, by omega, hal, HC4.out⟩
          | some d =>
            rw [hd] at hdc
            obtain ⟨vv, rfl, hvv, hps⟩ := hdc
            obtain ⟨da, dc, rfl⟩ := hvv.form
            have HD : Hid (declOf c.1 = some d) := hd
            have HVV : Hid (Sl (fun b => b < B) w3 (.slice da d.val.length dc) d.val) := hvv
            clear hd hvv
            have hln2 : c.2.2.length + 1 ≤ (n :: r).length := by simp; omega
            have D4 : Hid (Q3 181 (w3.alloc (.cells #[.string d.prop, .slice da d.val.length dc, .bool d.imp] 181)) w3.heap.size (.string d.prop) (.slice da d.val.length dc) (.bool d.imp)) := Q3.new _ _ _ _ _
            have X4 : Hid (Below wr.heap.size wr (w3.alloc (.cells #[.string d.prop, .slice da d.val.length dc, .bool d.imp] 181))) := X3.out.alloc hs3 _
            have XX4 : Hid (Below w3.heap.size w3 (w3.alloc (.cells #[.string d.prop, .slice da d.val.length dc, .bool d.imp] 181))) := (Below.refl _ _).alloc (Nat.le_refl _) _
            go_upto_region 7 with fail
            generalize w3.alloc (.cells #[.string d.prop, .slice da d.val.length dc, .bool d.imp] 181) = w4 at *
            generalize w3.heap.size = gd at *
            obtain ⟨p0, p1, p2⟩ := D4.out.cs
            have R4 : Hid (w4.ownsRow w.heap.size 181 3 (.slice ua acc.length uc) acc.length cs) := own_keep HR.out.row fun k hk => X4.out.block k (HR.out.row.lt k hk).2
            have CT4 : Hid (CatG CDec (fun b => b < B) w4 acc cs) := HR.out.cat.keep CDec.fair (fun _ h => h) (fun k hk => by have hk' : k < B := hk; exact X4.out.block k (by omega))
            have BW4 : Hid (Below w.heap.size w w4) := HR.out.below.trans (X4.out.mono hsr)
            have hs4 := BW4.out.size
            have HO5 : Hid ((w4.alloc (.cells #[.string d.prop, .slice da d.val.length dc, .bool d.imp] 181)).ownsRow w.heap.size 181 3 (.slice ua acc.length uc) acc.length cs) := R4.out.alloc _
            have hgd := D4.out.lt
            have HVV4 : Hid (Sl (fun b => b < B) w4 (.slice da d.val.length dc) d.val) := HVV.out.below XX4.out (by omega)
            have HB4 : Hid (Sl (fun b => b < B) w4 (.slice ba c.2.2.length bc) c.2.2) := HB3.out.below XX4.out (by omega)
            go_wp2_with (at_builtin; go_must (refine wpList_append_own_at _ rfl _ _ 174 rfl w.heap.size 181 iT (.agg #[.string ⟨#[]⟩, .slice none 0 0, .bool false]) 3 48 Tryz.underlying174 HI.out.1 HI.out.2.1 HI.out.2.2.1 HI.out.2.2.2 rfl (by omega) (.slice ua acc.length uc) acc.length cs rfl HO5.out ⟨w4.heap.size, 0, none⟩ 1 1 [.string d.prop, .slice da d.val.length dc, .bool d.imp] rfl rfl (new3 _ _ _ _ _) (by simp [Value.oneCell']) (by unfold maxLen; omega) (by omega) (by simp; omega) ?_))
            intro v6 w6 hown6 hgr6 _ hat6
            have hlo : ∀ rr, Value.ownBlock (.slice ua acc.length uc) = some rr → w.heap.size ≤ rr := fun rr hr => (HO5.out.lt rr hr).1
            have hb6 : Below w.heap.size w4 w6 := ((Below.refl _ _).alloc hs4 _).grown hgr6 (by simp; omega) hlo
            have HC6 : Hid (DcI B w l v6 (acc ++ [d]) (cs ++ [.string d.prop, .slice da d.val.length dc, .bool d.imp]) (.slice ba c.2.2.length bc) c.2.2 w6) := ⟨by rw [List.length_append]; exact hown6, CatG.snoc _ _ (CT4.out.keep CDec.fair (fun _ h => h) (fun k hk => hb6.block k (Nat.lt_of_lt_of_le hk hB))) d _ ⟨_, rfl, HVV4.out.below hb6 hB, hps⟩, HB4.out.below hb6 hB, BW4.out.trans hb6, by rw [HEQ.out, HD.out, List.append_assoc]; rfl, by simp; omega⟩
            have hl6' : (acc ++ [d]).length ≤ 600 := by have := HC6.out.ln; omega
            clear hown6 hgr6 hat6 hlo hb6
            go_wp2_with fail
            go_roundg (gk - 1)
            case measure => omega
            case rel => exact ⟨_, _, acc ++ [d], _, c.2.2, rfl, rfl, by omega, hl6', HC6.out⟩
        · have k10 : n.t.kind = 10 := by simpa using hk10
          obtain ⟨c, Hc⟩ : ∃ c, Hid (cutN (fun m => isSemi m || isBody m) r = c) := ⟨_, hid rfl⟩
          have HEQ : Hid (decls l = acc ++ decls c.2.2) := by show _ = _; rw [HR.out.eq, decls_at k10, Hc.out]
          have hrl : c.2.2.length ≤ r.length := by have := cutN_len (fun m => isSemi m || isBody m) r; rw [Hc.out] at this; omega
          clear k10 nk1
          go_wp2_with fail
          refine (readAt_c B n r _ wr HR.out.now (by omega)).mono ?_
          rw [Hc.out]
          rintro e w2 ⟨hv, bv, v2, rfl, hrv, hbh, hb2⟩
          obtain ⟨va, vc, rfl⟩ := hrv.head.form
          obtain ⟨bl, hbl, hbe⟩ := hrv.body
          obtain ⟨ka, kc, rfl⟩ := hbl.form
          obtain ⟨ba, bc, rfl⟩ := hbh.form
          obtain ⟨sb, Hsb⟩ : ∃ sb, Hid ((bodyOf c.2.1).isSome = sb) := ⟨_, hid rfl⟩
          rw [Hsb.out]
          have HC4 : Hid (DcI B w l (.slice ua acc.length uc) acc cs (.slice ba c.2.2.length bc) c.2.2 w2) := ⟨own_keep HR.out.row fun k hk => hb2.block k (HR.out.row.lt k hk).2, HR.out.cat.keep CDec.fair (fun _ h => h) (fun k hk => by have hk' : k < B := hk; exact hb2.block k (by omega)), hbh, HR.out.below.trans (hb2.mono hsr), HEQ.out, by omega⟩
          clear hrv hbl hbe hbh hb2 c0
          go_wp2_with fail
          go_roundg (gk - 1)
          case measure => omega
          case rel => exact ⟨_, _, acc, cs, c.2.2, rfl, rfl, by omega, hal, HC4.out⟩
      · have k1 : n.t.kind = 1 := by simpa using hk1
        obtain ⟨a1, hr1, hS1⟩ := HR.out.now.cut1v
        have HC4 : Hid (DcI B w l (.slice ua acc.length uc) acc cs (.slice a1 r.length (cap' - 1)) r wr) := ⟨HR.out.row, HR.out.cat, hS1, HR.out.below, by rw [HR.out.eq, decls_blank (by simp [blankN, k1])], by omega⟩
        clear hS1 k1
        go_wp2_with fail
        go_roundg (gk - 1)
        case measure => omega
        case rel => exact ⟨_, _, acc, cs, r, rfl, rfl, by omega, hal, HC4.out⟩
end
structure TurnL (bs : List Nat) (w w' : World) : Prop where
  os : w'.os = w.os
  tape : w'.tape = w.tape
  output : w'.output = w.output
  size : w.heap.size ≤ w'.heap.size
  block : ∀ k, k < w.heap.size → k ∉ bs → w'.heap[k]? = w.heap[k]?
theorem TurnL.refl (bs : List Nat) (w : World) : TurnL bs w w := ⟨rfl, rfl, rfl, Nat.le_refl _, fun _ _ _ => rfl⟩
theorem TurnL.trans {bs : List Nat} {x y z : World} (h : TurnL bs x y) (k : TurnL bs y z) : TurnL bs x z :=
  ⟨k.os.trans h.os, k.tape.trans h.tape, k.output.trans h.output, Nat.le_trans h.size k.size, fun g hg hb => (k.block g (Nat.lt_of_lt_of_le hg h.size) hb).trans (h.block g hg hb)⟩
theorem TurnL.of_below {bs : List Nat} {x y : World} (h : Below x.heap.size x y) : TurnL bs x y := ⟨h.os, h.tape, h.output, h.size, fun g hg _ => h.block g hg⟩
theorem TurnL.of_turn {bs : List Nat} {b : Nat} {x y : World} (h : Turn b x y) (hb : b ∈ bs) : TurnL bs x y :=
  ⟨h.os, h.tape, h.output, h.size, fun g hg hn => h.block g hg (fun e => hn (e ▸ hb))⟩
theorem TurnL.below {bs : List Nat} {B : Nat} {x y : World} (h : TurnL bs x y) (hB : ∀ b ∈ bs, B ≤ b) (hx : B ≤ x.heap.size) : Below B x y :=
  ⟨h.os, h.tape, h.output, h.size, fun g hg => h.block g (by omega) (fun hm => by have := hB g hm; omega)⟩
theorem TurnL.alloc {bs : List Nat} {x y : World} (h : TurnL bs x y) (o : Obj) : TurnL bs x (y.alloc o) := h.trans (TurnL.of_below ((Below.refl _ _).alloc (Nat.le_refl _) o))
def AllW (B : Nat) (w : World) (bs : List Nat) (G : Nat → ByteArray → Option Win) : Prop := ∀ i (h : i < bs.length), WinM B w bs[i] (G i)
theorem AllW.below {B : Nat} {w w' : World} {bs : List Nat} {G : Nat → ByteArray → Option Win} (h : AllW B w bs G) (hb : Below w.heap.size w w') (hB : B ≤ w.heap.size) : AllW B w' bs G :=
  fun i hi => (h i hi).keep (hb.mono hB) (hb.block _ (h i hi).lt)
theorem AllW.upd {B : Nat} {w w' : World} {bs : List Nat} {G : Nat → ByteArray → Option Win} {g : ByteArray → Option Win} {k : Nat} (h : AllW B w bs G) (hk : k < bs.length) (ht : Turn bs[k] w w') (hw : WinM B w' bs[k] g) (hd : bs.Nodup) (hB : ∀ b ∈ bs, B ≤ b) :
    AllW B w' bs (fun i => if i = k then g else G i) := by
  intro i hi
  by_cases e : i = k
  · subst e; simp only [if_pos]; exact hw
  · simp only [if_neg e]
    have hne : bs[i] ≠ bs[k] := fun e2 => e ((List.getElem_inj hd).1 e2)
    have hkB := hB bs[k] (List.getElem_mem hk)
    have hl := (h k hk).lt
    exact (h i hi).keep (ht.below hkB (by omega)) (ht.block _ (h i hi).lt hne)
def CMb : Law Nat := fun _ _ b cs => cs = [.map (some b)]
theorem CMb.fair : Fair CMb := fun _ _ _ _ _ _ _ _ h => h
theorem CMb.sized : Sized CMb 1 := by rintro S w x cs rfl; rfl
theorem LG.dvq {S : Nat → Prop} {w : World} {l : List (Dec × Value)} {g o i : Nat} (h : LG CDv 3 S w l g o) (hi : i < l.length) : (w.cell? ⟨g, o + i * 3, none⟩ = some (.string l[i].1.prop) ∧ w.cell? ⟨g, o + i * 3 + 1, none⟩ = some l[i].2 ∧ w.cell? ⟨g, o + i * 3 + 2, none⟩ = some (.bool l[i].1.imp)) ∧ S g := by
  obtain ⟨h0, cs, rfl, hc⟩ := h.at l g o i hi
  refine ⟨⟨?_, hc 1 _ rfl, hc 2 _ rfl⟩, h0⟩
  have := hc 0 _ rfl; rwa [Nat.add_zero] at this
theorem PgM.mono {B B' : Nat} {w : World} {p : Page} {a : Option Addr} {cap : Nat} (h : PgM B w p a cap) (h1 : B ≤ B') (h2 : B' ≤ w.heap.size) : PgM B' w p a cap := ⟨h.sg.mono CEl.fair h1, h2, h.pg⟩
def stW (t : Wgt) (g : ByteArray → Option Win) (d : Dec) : ByteArray → Option Win := entW g ⟨d.prop, d.val, d.imp, t⟩
def layE (cl : List Clm) (ds : List Dec) (i : Nat) (g : ByteArray → Option Win) : ByteArray → Option Win :=
  if (grF i (0, 0, 0) false cl).2 = true then ds.foldl (stW (grF i (0, 0, 0) false cl).1) g else g
theorem foldl_take {α β : Type} (f : β → α → β) (b : β) (l : List α) {j : Nat} (h : j < l.length) : (l.take (j + 1)).foldl f b = f ((l.take j).foldl f b) l[j] := by
  rw [List.take_succ_eq_append_getElem h, List.foldl_append]; rfl
section
attribute [local go_sem] fld_tok fld_ins fld_kind fld_word
def plcD (d : List Nd) : Option Nat := match d with | [v] => placeOf v.t | _ => none
def plcF (l : List Nd) : Option Nat := plcD (bare l)
theorem partV_nth (lv : Value) (p : Nat) : partV 58 nNth nob nob lv p = .iface 351 (if p = 0 then .agg #[.string nOdd, .int .i64 0] else if p = 1 then .agg #[.string nEven, .int .i64 0] else .agg #[.string nob, .int .i64 ((p - 2 : Nat) : Int)]) := by
  unfold partV
  rw [if_neg (by omega), if_neg (by omega), if_neg (by omega), if_neg (by omega), if_neg (by decide), if_neg (by decide), if_pos rfl]
theorem numF_head {s : ByteArray} (h0 : 0 < s.size) (h : digI (pk s 0) = false) : numF 0 s.data.toList = none := by
  have e : ∃ c r, s.data.toList = c :: r := by
    cases hl : s.data.toList with
    | nil => have : s.data.toList.length = s.size := by simp
             rw [hl] at this; simp at this; omega
    | cons c r => exact ⟨c, r, rfl⟩
  obtain ⟨c, r, e⟩ := e
  have hp : pk s 0 = (c.toNat : Int) := by
    rw [pk_data h0]; simp [e]
  rw [e]
  unfold numF
  rw [hp] at h
  rw [if_neg]
  rintro ⟨h1, h2, _⟩
  simp [digI] at h
  omega
theorem readPlace_c (B : Nat) (l : List Nd) (v : Value) (w : World) (h : Sl (fun b => b < B) w v l) (hB : B ≤ w.heap.size) :
    Calls Tryz.prog 306 #[v] w fun e w' => ((plcF l = none ∧ ∃ pv, e = .returned (.tuple #[pv, .bool false])) ∨ ∃ p, plcF l = some p ∧ e = .returned (.tuple #[partV 58 nNth nob nob (.slice none 0 0) p, .bool true])) ∧ Below w.heap.size w w' := by
  have HS : Hid (Sl (fun b => b < B) w v l) := h
  clear h
  obtain ⟨d, Hd⟩ : ∃ d, Hid (bare l = d) := ⟨_, hid rfl⟩
  have HP : Hid (plcF l = plcD d) := by show _ = _; unfold plcF; rw [Hd.out]
  obtain ⟨a, cap, rfl⟩ := HS.out.form
  go_enter Tryz.func306, Tryz.ntmps306
  go_wp2_with fail
  refine (Trim_c B l _ w HS.out).mono ?_
  rw [Hd.out]
  rintro e w1 ⟨v1, rfl, hS1, rfl⟩
  have S1 : Hid (Sl (fun b => b < B) w1 v1 d) := hS1
  clear hS1 HS
  by_cases h1 : ∃ x, d = [x]
  · obtain ⟨x, rfl⟩ := h1
    obtain ⟨g, o, kv, cp, rfl, hN, hcp⟩ := S1.out.head
    obtain ⟨ka, kc, rfl⟩ := hN.k.form
    have d0 := hN.c0
    have d1 := hN.c1
    have d2 := hN.c2
    have d3 := hN.c3
    have HOK : Hid (TokOK x.t) := hN.ok
    have hg : g < w1.heap.size := by have : g < B := hN.s; omega
    clear hN S1
    have A2 : Hid (VB (w1.alloc (.cells #[.int .i64 x.t.kind, .string x.t.word, .string x.t.unit, .slice ka x.kids.length kc] 199)) w1.heap.size (.int .i64 x.t.kind) (.string x.t.word) (.string x.t.unit) (.slice ka x.kids.length kc)) := VB.new _ _ _ _ _
    have B2 : Hid (Below w1.heap.size w1 (w1.alloc (.cells #[.int .i64 x.t.kind, .string x.t.word, .string x.t.unit, .slice ka x.kids.length kc] 199))) := (Below.refl _ _).alloc (Nat.le_refl _) _
    have hz : (((([] : List Nd).length : Nat) : Int) + 1 != 1) = false := by simp
    simp only [List.length_nil] at *
    go_upto_region 5 with fail
    generalize w1.alloc (.cells #[.int .i64 x.t.kind, .string x.t.word, .string x.t.unit, .slice ka x.kids.length kc] 199) = w2 at *
    obtain ⟨gt, Hgt⟩ : ∃ gt, Hid (w1.heap.size = gt) := ⟨_, hid rfl⟩
    have A3 : Hid (VB w2 gt (.int .i64 x.t.kind) (.string x.t.word) (.string x.t.unit) (.slice ka x.kids.length kc)) := by rw [← Hgt.out]; exact A2
    rw [Hgt.out]
    clear A2 d0 d1 d2 d3
    obtain ⟨a0, a1, a2, a3⟩ := A3.out.cs
    have hwd := HOK.out.word
    cases hk5 : (x.t.kind == 5)
    · cases hk14 : (x.t.kind == 14)
      · have HV : Hid (plcF l = none) := by
          show _ = _
          rw [HP.out]
          simp at hk5 hk14
          simp [plcD, placeOf, hk5, hk14]
        go_wp2_with fail
        go_ret2
        exact ⟨.inl ⟨HV.out, _, rfl⟩, B2.out⟩
      · have e14 : x.t.kind = 14 := by simpa using hk14
        have HV : Hid (plcF l = if small x.t.word = nEven then some 1 else if small x.t.word = nOdd then some 0 else none) := by
          show _ = _
          rw [HP.out]
          simp only [plcD, placeOf, if_pos e14]
        clear e14
        obtain ⟨nm, Hnm⟩ : ∃ nm, Hid (small x.t.word = nm) := ⟨_, hid rfl⟩
        rw [Hnm.out] at HV
        go_wp2_with fail
        refine (Small_c x.t.word _ (by omega)).mono ?_
        rw [Hnm.out]
        rintro e w3 ⟨rfl, hb3⟩
        have B3 : Hid (Below w1.heap.size w1 w3) := B2.out.trans (hb3.mono B2.out.size)
        clear hb3
        cases ho : (nm.toList == [111, 100, 100])
        · cases hv : (nm.toList == [101, 118, 101, 110])
          · have HN : Hid (plcF l = none) := by
              show _ = _
              rw [bytes_lit] at ho hv
              have h1 : ¬ nm = nEven := by simpa [nEven] using hv
              have h2 : ¬ nm = nOdd := by simpa [nOdd] using ho
              rw [HV.out, if_neg h1, if_neg h2]
            go_wp2_with fail
            go_ret2
            exact ⟨.inl ⟨HN.out, _, rfl⟩, B3.out⟩
          · have h1 : nm = nEven := by rw [bytes_lit] at hv; simpa [nEven] using hv
            have HN : Hid (plcF l = some 1) := by show _ = _; rw [HV.out, if_pos h1]
            have H1 : Hid (nm = nEven) := h1
            clear h1
            go_wp2_with fail
            go_ret2
            exact ⟨.inr ⟨1, HN.out, by rw [partV_nth, H1.out]; rfl⟩, B3.out⟩
        · have h1 : nm = nOdd := by rw [bytes_lit] at ho; simpa [nOdd] using ho
          have HN : Hid (plcF l = some 0) := by show _ = _; rw [HV.out, h1]; rfl
          have H1 : Hid (nm = nOdd) := h1
          clear h1
          go_wp2_with fail
          go_ret2
          exact ⟨.inr ⟨0, HN.out, by rw [partV_nth, H1.out]; rfl⟩, B3.out⟩
    · have e5 : x.t.kind = 5 := by simpa using hk5
      have HV : Hid (plcF l = (numF 0 x.t.word.data.toList).map (· + 2)) := by
        show _ = _
        rw [HP.out]
        have h0 := HOK.out.num e5
        simp only [plcD, placeOf]
        rw [if_neg (by omega)]
        by_cases hd : digI (pk x.t.word 0) = true
        · rw [if_pos ⟨e5, hd⟩]
        · rw [if_neg (fun q => hd q.2), numF_head h0 (by simpa using hd)]; rfl
      clear e5
      go_wp2_with fail
      refine (readNumber_c x.t.word _ hwd).mono ?_
      rintro e w3 ⟨hr, rfl⟩
      rcases hr with ⟨hn, rfl⟩ | ⟨k, hn, rfl⟩
      · have HN : Hid (plcF l = none) := by show _ = _; rw [HV.out, hn]; rfl
        clear hn
        go_wp2_with fail
        go_ret2
        exact ⟨.inl ⟨HN.out, _, rfl⟩, B2.out⟩
      · have HN : Hid (plcF l = some (k + 2)) := by show _ = _; rw [HV.out, hn]; rfl
        clear hn
        go_wp2_with fail
        go_ret2
        exact ⟨.inr ⟨k + 2, HN.out, by rw [partV_nth, if_neg (by omega), if_neg (by omega)]; rfl⟩, B2.out⟩
  · have HV : Hid (plcF l = none) := by
      show _ = _
      rw [HP.out]
      match d, h1 with
      | [], _ => rfl
      | [x], h1 => exact absurd ⟨x, rfl⟩ h1
      | _ :: _ :: _, _ => rfl
    have hne : ((d.length : Int) != 1) = true := by
      simp
      intro e
      apply h1
      match d, e with
      | [x], _ => exact ⟨x, rfl⟩
    obtain ⟨a1, c1, rfl⟩ := S1.out.form
    have hl3 := S1.out.len
    clear h1 HP
    go_wp2_with fail
    go_ret2
    exact ⟨.inl ⟨HV.out, _, rfl⟩, Below.refl _ _⟩
end
end Go.Proofs.YtlliliddljkbfaaGreat
