import Derived.Test.YtlliliddljkbfaaGreatC6
import Derived.Test.YtlliliddljkbfaaGreatC16
import Derived.Test.YtlliliddljkbfaaGreatC32
import Derived.Deep.RegionWith
namespace Go.Proofs.YtlliliddljkbfaaGreat
set_option maxHeartbeats 64000000
set_option maxRecDepth 100000
open Go.RowKit Sp
section
attribute [local go_sem] fld_tok fld_ins fld_kind fld_word
theorem partV_tag {nm : ByteArray} (h : nm ≠ nob) (lv : Value) (p : Nat) : partV 116 nm nob nob lv p = .iface 309 (.agg #[.string nm]) := by
  unfold partV
  rw [if_pos rfl, if_neg h]
theorem partV_star (lv : Value) (p : Nat) : partV 116 nob nob nob lv p = .iface 311 (.agg #[]) := by
  unfold partV
  rw [if_pos rfl, if_pos rfl]
theorem small_ne {s : ByteArray} (h : 0 < s.size) : small s ≠ nob := by
  intro e
  have := congrArg ByteArray.size e
  have e2 : (small s).size = s.size := by
    show (s.data.toList.map smallB).toArray.size = s.data.size
    rw [List.size_toArray, List.length_map, Array.length_toList]
  rw [e2] at this
  have : s.size = 0 := this
  omega
theorem compW_none {rec : List Nd → Option Sels} {l : List Nd} (nk : ¬ (hdN l).t.kind = 14) (h : signT (hdN l).t (b1 42) = false) : compoundW rec l = partsW rec [] l := by
  unfold compoundW tagOf
  cases l with
  | nil => rfl
  | cons n r =>
    have nk' : ¬ n.t.kind = 14 := nk
    have h' : signT n.t (b1 42) = false := h
    simp only [sgnN, h', Bool.false_eq_true, if_false, if_neg nk']
theorem compW_star {rec : List Nd → Option Sels} {l : List Nd} (nk : ¬ (hdN l).t.kind = 14) (h : signT (hdN l).t (b1 42) = true) : compoundW rec l = partsW rec [Simple.of 116 nob] l.tail ∧ 1 + l.tail.length ≤ l.length := by
  unfold compoundW tagOf
  cases l with
  | nil => rw [sign_nil] at h; cases h
  | cons n r =>
    have nk' : ¬ n.t.kind = 14 := nk
    have h' : signT n.t (b1 42) = true := h
    simp only [sgnN, h', if_true, if_neg nk', List.tail_cons, List.length_cons, true_and]
    omega
theorem compW_tag {rec : List Nd → Option Sels} {l : List Nd} (hk : (hdN l).t.kind = 14) : compoundW rec l = partsW rec [Simple.of 116 (small (hdN l).t.word)] l.tail ∧ 1 + l.tail.length ≤ l.length ∧ ∃ n r, l = n :: r := by
  unfold compoundW tagOf
  cases l with
  | nil => exact absurd hk (by decide)
  | cons n r =>
    have hk' : n.t.kind = 14 := hk
    simp only [if_pos hk', List.tail_cons, List.length_cons]
    exact ⟨rfl, by omega, _, _, rfl⟩
def NmL (l : List Nd) : Prop := ∀ n ∈ l, n.t.kind = 14 → 0 < n.t.word.size
theorem cell_one (w : World) (x : Value) (t : TypeId) : ∀ j u, [x][j]? = some u → (w.alloc (.cells #[x] t)).cell? ((⟨w.heap.size, 0, none⟩ : Addr).add j) = some u := by
  intro j u hu
  rw [Addr.add_lit, Nat.zero_add, World.cell?_alloc_mark, ← hu]
  simp
theorem compound_c (f : Nat) (hR : RecP f) (B b : Nat) (sv : Value) (l : List Nd) (w : World) (h : Rdr B w b sv l) (hd : DepL f l) (hnm : NmL l) :
    Calls Tryz.prog 196 #[.pointer (some ⟨b, 0, none⟩)] w fun e w' => cpP f (compoundW (recF f) l) B b w w' e ∧ Turn b w w' := by
  have R1 : Hid (Rdr B w b sv l) := h
  have HR : Hid (RecP f) := hR
  have HD : Hid (DepL f l) := hd
  have HNM : Hid (NmL l) := hnm
  have hbw : b < w.heap.size := h.lt
  have hl6 := h.len
  clear h hR hd hnm
  obtain ⟨iT, hiT⟩ := info_part
  have HI : Hid (Tryz.prog.info? 222 = some iT ∧ iT.zero = some .nilIface ∧ iT.size = 1 ∧ iT.bytes = 16) := hiT
  clear hiT
  go_enter Tryz.func196, Tryz.ntmps196
  go_wp2_with fail
  refine (next_c B b _ l _ R1.out).mono ?_
  rintro e w1 ⟨kv1, rfl, _, hb1⟩
  have R2 : Hid (Rdr B w1 b sv l) := R1.out.below hb1
  have T2 : Hid (Turn b w w1) := Turn.of_below hb1
  clear hb1 R1
  unfold nodV
  go_upto_if 11 with fail
  go_cut [4] (fun s4 wx => ∃ (u : Value) (acc : List Simple) (cur : List Nd), u = s4 ∧ acc.length + cur.length ≤ 600 ∧ Aside (CpI f B b w l u acc cur wx))
  case first =>
    cases hk : ((hdN l).t.kind == 14)
    · have nk : ¬ (hdN l).t.kind = 14 := by simpa using hk
      go_wp2_with fail
      refine (takeSign_c B b _ l (b1 42) _ R2.out).mono ?_
      rintro e w3 ⟨sv3, rfl, hR3, hT3⟩
      have T3 : Hid (Turn b w w3) := T2.out.trans hT3
      have hs3 := T3.out.size
      clear hT3
      obtain ⟨s1, Hs1⟩ : ∃ s, Hid (signT (hdN l).t (b1 42) = s) := ⟨_, hid rfl⟩
      rw [Hs1.out]
      cases s1
      · have hR3' : Rdr B w3 b sv3 l := by rw [offS_no Hs1.out] at hR3; exact hR3
        have HC : Hid (CpI f B b w l (.slice none 0 0) [] l w3) := ⟨MG.nil _ _ _ _ _, ⟨sv3, hR3'⟩, T3.out, compW_none nk Hs1.out, HD.out, by simp⟩
        clear hR3 hR3' nk
        go_wp2_with fail
        go_meet
        exact ⟨_, [], l, rfl, by simpa using hl6, HC.out⟩
      · have hR3' : Rdr B w3 b sv3 l.tail := by rw [offS_yes Hs1.out] at hR3; exact hR3
        have R3 : Hid (Rdr B w3 b sv3 l.tail) := hR3'
        have HE : Hid (compoundW (recF f) l = partsW (recF f) [Simple.of 116 nob] l.tail ∧ 1 + l.tail.length ≤ l.length) := compW_star nk Hs1.out
        clear hR3 hR3' nk
        have M0 := MG.nil (PSim f) 1 222 w.heap.size w3
        go_wp2_with (at_builtin; go_must (refine wpList_append_own_at _ rfl _ _ 217 rfl w.heap.size 222 iT .nilIface 1 16 Tryz.underlying217 HI.out.1 HI.out.2.1 HI.out.2.2.1 HI.out.2.2.2 rfl (by omega) (.slice none 0 0) 0 [] rfl (World.ownsRow_nil _ _ _ _) ⟨w3.heap.size, 0, none⟩ 1 1 [.iface 311 (.agg #[])] rfl rfl (cell_one _ _ _) (by simp [Value.oneCell']) (by unfold maxLen; omega) (by omega) (by simp; omega) ?_))
        intro v4 w4 hown4 hgr4 _ hat4
        have hb4 : Below w.heap.size w3 w4 := ((Below.refl _ _).alloc hs3 _).grown hgr4 (by simp; omega) (fun rr hr => by simp [Value.ownBlock] at hr)
        have HC : Hid (CpI f B b w l v4 [Simple.of 116 nob] l.tail w4) := ⟨MG.snoc (PSim.fair f) (l := []) (cs := []) rfl (by have := PSim.plain f (Oth w.heap.size (w3.alloc (.cells #[.iface 311 (.agg #[])] 222)) (.slice none 0 0)) (w3.alloc (.cells #[.iface 311 (.agg #[])] 222)) 116 nob nob nob 0; rw [partV_star] at this; exact this) hown4 hgr4 (by simpa using hat4), ⟨sv3, by
          have hr := R3.out.alloc (.cells #[.iface 311 (.agg #[])] 222)
          exact ⟨by rw [hgr4.block b (by simp; omega) (by simp [Value.ownBlock])]; exact hr.blk, hr.sl.keep (fun _ hg => hg) (fun g hg => by have hg' : g < B := hg; have := hr.lo; exact hgr4.block g (by simp; omega) (by simp [Value.ownBlock])), hr.lo⟩⟩, T3.out.trans' hb4, HE.out.1, HD.out.tail, by simpa using HE.out.2⟩
        have hle : 1 + l.tail.length ≤ 600 := by have := HE.out.2; omega
        clear hown4 hgr4 hat4 hb4 M0
        go_wp2_with fail
        go_meet
        exact ⟨_, _, _, rfl, by simpa using hle, HC.out⟩
    · have nk : (hdN l).t.kind = 14 := by simpa using hk
      obtain ⟨tg, Htg⟩ : ∃ t, Hid (small (hdN l).t.word = t) := ⟨_, hid rfl⟩
      have HE : Hid (compoundW (recF f) l = partsW (recF f) [Simple.of 116 tg] l.tail ∧ 1 + l.tail.length ≤ l.length) := by
        have := compW_tag (rec := recF f) nk
        rw [Htg.out] at this
        exact ⟨this.1, this.2.1⟩
      have HT : Hid (tg ≠ nob) := by
        rw [← Htg.out]
        obtain ⟨n, r, e⟩ := (compW_tag (rec := recF f) nk).2.2
        refine small_ne ?_
        rw [e] at nk ⊢
        exact HNM.out n (by rw [e]; simp) nk
      have hwd := HD.out.hd.2
      clear nk
      obtain ⟨n, Hn⟩ : ∃ n, Hid (hdN l = n) := ⟨_, hid rfl⟩
      rw [Hn.out] at Htg hwd hk
      go_wp2_with fail
      refine (rtake_c B b _ l _ R2.out).mono ?_
      rw [Hn.out]
      rintro e w3 ⟨kv3, sv3, rfl, _, hR3, hT3⟩
      have R3 : Hid (Rdr B w3 b sv3 l.tail) := hR3
      have T3 : Hid (Turn b w w3) := T2.out.trans hT3
      clear hR3 hT3
      unfold nodV
      go_wp2_with fail
      refine (Small_c n.t.word _ hwd).mono ?_
      rw [Htg.out]
      rintro e w5 ⟨rfl, hb5⟩
      have R5 : Hid (Rdr B w5 b sv3 l.tail) := R3.out.below hb5
      have T5 : Hid (Turn b w w5) := T3.out.trans (Turn.of_below hb5)
      have hs5 := T5.out.size
      clear hb5 R3 T3
      go_wp2_with (at_builtin; go_must (refine wpList_append_own_at _ rfl _ _ 217 rfl w.heap.size 222 iT .nilIface 1 16 Tryz.underlying217 HI.out.1 HI.out.2.1 HI.out.2.2.1 HI.out.2.2.2 rfl (by omega) (.slice none 0 0) 0 [] rfl (World.ownsRow_nil _ _ _ _) ⟨w5.heap.size, 0, none⟩ 1 1 [.iface 309 (.agg #[.string tg])] rfl rfl (cell_one _ _ _) (by simp [Value.oneCell']) (by unfold maxLen; omega) (by omega) (by simp; omega) ?_))
      intro v4 w4 hown4 hgr4 _ hat4
      have hb4 : Below w.heap.size w5 w4 := ((Below.refl _ _).alloc hs5 _).grown hgr4 (by simp; omega) (fun rr hr => by simp [Value.ownBlock] at hr)
      have HC : Hid (CpI f B b w l v4 [Simple.of 116 tg] l.tail w4) := ⟨MG.snoc (PSim.fair f) (l := []) (cs := []) rfl (by have := PSim.plain f (Oth w.heap.size (w5.alloc (.cells #[.iface 309 (.agg #[.string tg])] 222)) (.slice none 0 0)) (w5.alloc (.cells #[.iface 309 (.agg #[.string tg])] 222)) 116 tg nob nob 0; rw [partV_tag HT.out] at this; exact this) hown4 hgr4 (by simpa using hat4), ⟨sv3, by
        have hr := R5.out.alloc (.cells #[.iface 309 (.agg #[.string tg])] 222)
        exact ⟨by rw [hgr4.block b (by simp; omega) (by simp [Value.ownBlock])]; exact hr.blk, hr.sl.keep (fun _ hg => hg) (fun g hg => by have hg' : g < B := hg; have := hr.lo; exact hgr4.block g (by simp; omega) (by simp [Value.ownBlock])), hr.lo⟩⟩, T5.out.trans' hb4, HE.out.1, HD.out.tail, by simpa using HE.out.2⟩
      have hle : 1 + l.tail.length ≤ 600 := by have := HE.out.2; omega
      clear hown4 hgr4 hat4 hb4
      go_wp2_with fail
      go_meet
      exact ⟨_, _, _, rfl, by simpa using hle, HC.out⟩
  case rest =>
  obtain ⟨u, acc, cur, rfl, hlen, hA⟩ := hcut
  have HC0 : Hid (CpI f B b w l u acc cur wc) := hA.out
  clear hA R2 T2 HNM
  go_wp2_with fail
  go_loopg [4] cur.length (fun gg v4 wr => ∃ (u : Value) (acc : List Simple) (cur : List Nd), u = v4 ∧ gg = cur.length ∧ acc.length + cur.length ≤ 600 ∧ Aside (CpI f B b w l u acc cur wr))
  case atStart => exact ⟨u, acc, cur, rfl, rfl, hlen, HC0.out⟩
  case round =>
    obtain ⟨u, acc, cur, rfl, rfl, hlen, hA⟩ := hrel
    have HC : Hid (CpI f B b w l u acc cur wr) := hA.out
    clear hA HC0
    obtain ⟨ua, uc, rfl⟩ := HC.out.row.form
    obtain ⟨sv1, hR1⟩ := HC.out.rdr
    have R1 : Hid (Rdr B wr b sv1 cur) := hR1
    clear hR1
    have hsr := HC.out.turn.size
    go_wp2_with fail
    refine (partFollows_c B b _ cur _ R1.out).mono ?_
    rintro e w2 ⟨rfl, hb2⟩
    have R2 : Hid (Rdr B w2 b sv1 cur) := R1.out.below hb2
    have T2 : Hid (Turn b w w2) := HC.out.turn.trans (Turn.of_below hb2)
    have M2 : Hid (MG (PSim f) 1 222 w.heap.size w2 (.slice ua acc.length uc) acc) := HC.out.row.below (PSim.fair f) hb2
    clear hb2 R1
    obtain ⟨fo, Hfo⟩ : ∃ s, Hid (folB (hdN cur).t = s) := ⟨_, hid rfl⟩
    rw [Hfo.out]
    cases fo
    · have HV : Hid (compoundW (recF f) l = some (acc, cur)) := by
        show _ = _
        rw [HC.out.eq, partsW_step, Hfo.out]; rfl
      go_wp2_with fail
      go_ret2
      exact ⟨by rw [HV.out]; exact ⟨_, _, rfl, R2.out, M2.out.sl (PSim.fair f) (PSim.sized f) (by omega)⟩, T2.out⟩
    · have hcn : cur ≠ [] := by
        rintro rfl
        have := Hfo.out
        rw [folB_nil] at this
        cases this
      have HS : Hid (compoundW (recF f) l = match partF1 (recF f) cur with | none => none | some (s, r) => partsW (recF f) (acc ++ [s]) r) := by
        show _ = _
        rw [HC.out.eq, partsW_step, Hfo.out]; rfl
      have HDC : Hid (DepL f cur ∧ acc.length + cur.length ≤ l.length) := ⟨HC.out.dep, HC.out.len⟩
      have hs2 := T2.out.size
      clear HC
      go_wp2_with fail
      refine (part_c f HR.out B b _ cur w2 R2.out HDC.out.1).mono ?_
      rintro e w3 ⟨hp, hT3⟩
      have T3 : Hid (Turn b w w3) := T2.out.trans hT3
      have M3 : Hid (MG (PSim f) 1 222 w.heap.size w3 (.slice ua acc.length uc) acc) := M2.out.turn (PSim.fair f) hT3 hbw
      have hs3 := hT3.size
      clear hT3
      unfold ptP at hp
      cases hq : partF1 (recF f) cur with
      | none =>
        rw [hq] at hp
        obtain ⟨pv, sv3, l3, rfl, hR3⟩ := hp
        have R3 : Hid (Rdr B w3 b sv3 l3) := hR3
        have HV : Hid (compoundW (recF f) l = none) := by show _ = _; rw [HS.out, hq]
        clear hq hR3
        go_wp2_with fail
        go_ret2
        exact ⟨by rw [HV.out]; exact ⟨_, _, _, rfl, R3.out⟩, T3.out⟩
      | some sr =>
        obtain ⟨s, r⟩ := sr
        rw [hq] at hp
        obtain ⟨pv, sv3, rfl, hR3, hps⟩ := hp
        obtain ⟨pT, pu, rfl⟩ := hps.form
        have R3 : Hid (Rdr B w3 b sv3 r) := hR3
        have HV : Hid (compoundW (recF f) l = partsW (recF f) (acc ++ [s]) r) := by show _ = _; rw [HS.out, hq]
        have hrl := (partF1_len hq hcn).1
        have HDR : Hid (DepL f r) := (partF1_len hq hcn).2 f HDC.out.1
        have PA : ∀ o, Hid (PSim f (Oth w.heap.size (w3.alloc o) (.slice ua acc.length uc)) (w3.alloc o) s [.iface pT pu]) := fun o => M2.out.apart (PSim.fair f) hps hs2 (by simp) (fun g hg => Below.heap_alloc _ _ _ hg)
        obtain ⟨cs, hown, hcat⟩ := (M3.out.alloc (PSim.fair f) (.cells #[.iface pT pu] 222))
        have HO : Hid ((w3.alloc (.cells #[.iface pT pu] 222)).ownsRow w.heap.size 222 1 (.slice ua acc.length uc) acc.length cs) := hown
        have HCt : Hid (CatG (PSim f) (Oth w.heap.size (w3.alloc (.cells #[.iface pT pu] 222)) (.slice ua acc.length uc)) (w3.alloc (.cells #[.iface pT pu] 222)) acc cs) := hcat
        clear hq hR3 hps hown hcat HS hcn
        go_wp2_with (at_builtin; go_must (refine wpList_append_own_at _ rfl _ _ 217 rfl w.heap.size 222 iT .nilIface 1 16 Tryz.underlying217 HI.out.1 HI.out.2.1 HI.out.2.2.1 HI.out.2.2.2 rfl (by omega) (.slice ua acc.length uc) acc.length cs rfl HO.out ⟨w3.heap.size, 0, none⟩ 1 1 [.iface pT pu] rfl rfl (cell_one _ _ _) (by simp [Value.oneCell']) (by unfold maxLen; omega) (by omega) (by simp; omega) ?_))
        intro v4 w4 hown4 hgr4 _ hat4
        have hlo : ∀ rr, Value.ownBlock (.slice ua acc.length uc) = some rr → w.heap.size ≤ rr := fun rr hr => (HO.out.lt rr hr).1
        have hb4 : Below w.heap.size w3 w4 := ((Below.refl _ _).alloc (by omega) _).grown hgr4 (by simp; omega) hlo
        have HC4 : Hid (CpI f B b w l v4 (acc ++ [s]) r w4) := ⟨MG.snoc (PSim.fair f) HCt.out (PA _).out hown4 hgr4 (by simpa using hat4), ⟨sv3, by
          have hr := R3.out.alloc (.cells #[.iface pT pu] 222)
          exact ⟨by rw [hgr4.block b (by simp; omega) (fun e => by have := hlo b e.symm; omega)]; exact hr.blk, hr.sl.keep (fun _ hg => hg) (fun g hg => by have hg' : g < B := hg; have := hr.lo; exact hgr4.block g (by simp; omega) (fun e => by have := hlo g e.symm; omega)), hr.lo⟩⟩, T3.out.trans' hb4, HV.out, HDR.out, by have := HDC.out.2; simp; omega⟩
        clear hown4 hgr4 hat4 hb4 hlo
        go_wp2_with fail
        go_roundg r.length
        case measure => omega
        case rel => exact ⟨v4, acc ++ [s], r, rfl, rfl, by simp; omega, HC4.out⟩
end
theorem ps0 (n : Nd) (kv : Value) (w : World) : Hid (NB ((w.alloc (.cells #[.int .i64 n.t.kind, .string n.t.word, .string n.t.unit, kv] 151)).alloc (.cells #[.int .u8 0, .string ⟨#[]⟩, .string ⟨#[]⟩, .string ⟨#[]⟩, .slice none 0 0, .int .i64 0] 278)) w.heap.size (.int .i64 n.t.kind) (.string n.t.word) (.string n.t.unit) kv) ∧ Hid (SB ((w.alloc (.cells #[.int .i64 n.t.kind, .string n.t.word, .string n.t.unit, kv] 151)).alloc (.cells #[.int .u8 0, .string ⟨#[]⟩, .string ⟨#[]⟩, .string ⟨#[]⟩, .slice none 0 0, .int .i64 0] 278)) (w.heap.size + 1) (.int .u8 0) (.string ⟨#[]⟩) (.string ⟨#[]⟩) (.string ⟨#[]⟩) (.slice none 0 0) (.int .i64 0)) := by
  refine ⟨NB.alloc (heap_alloc_new w _) _, ?_⟩
  show SB _ _ _ _ _ _ _ _
  have h := heap_alloc_new (w.alloc (.cells #[.int .i64 n.t.kind, .string n.t.word, .string n.t.unit, kv] 151)) (.cells #[.int .u8 0, .string ⟨#[]⟩, .string ⟨#[]⟩, .string ⟨#[]⟩, .slice none 0 0, .int .i64 0] 278)
  have e : (w.alloc (.cells #[.int .i64 n.t.kind, .string n.t.word, .string n.t.unit, kv] 151)).heap.size = w.heap.size + 1 := by simp
  rw [e] at h
  exact h
theorem ps1 {n : Nd} {kv : Value} {w w1 : World} (nm : ByteArray) (X0 : Hid (NB ((w.alloc (.cells #[.int .i64 n.t.kind, .string n.t.word, .string n.t.unit, kv] 151)).alloc (.cells #[.int .u8 0, .string ⟨#[]⟩, .string ⟨#[]⟩, .string ⟨#[]⟩, .slice none 0 0, .int .i64 0] 278)) w.heap.size (.int .i64 n.t.kind) (.string n.t.word) (.string n.t.unit) kv)) (R0 : Hid (SB ((w.alloc (.cells #[.int .i64 n.t.kind, .string n.t.word, .string n.t.unit, kv] 151)).alloc (.cells #[.int .u8 0, .string ⟨#[]⟩, .string ⟨#[]⟩, .string ⟨#[]⟩, .slice none 0 0, .int .i64 0] 278)) (w.heap.size + 1) (.int .u8 0) (.string ⟨#[]⟩) (.string ⟨#[]⟩) (.string ⟨#[]⟩) (.slice none 0 0) (.int .i64 0))) (hb1 : Below ((w.alloc (.cells #[.int .i64 n.t.kind, .string n.t.word, .string n.t.unit, kv] 151)).alloc (.cells #[.int .u8 0, .string ⟨#[]⟩, .string ⟨#[]⟩, .string ⟨#[]⟩, .slice none 0 0, .int .i64 0] 278)).heap.size ((w.alloc (.cells #[.int .i64 n.t.kind, .string n.t.word, .string n.t.unit, kv] 151)).alloc (.cells #[.int .u8 0, .string ⟨#[]⟩, .string ⟨#[]⟩, .string ⟨#[]⟩, .slice none 0 0, .int .i64 0] 278)) w1) :
    Hid (NB (w1.alloc (.cells #[.int .u8 58, .string nm, .string ⟨#[]⟩, .string ⟨#[]⟩, .slice none 0 0, .int .i64 0] 278)) w.heap.size (.int .i64 n.t.kind) (.string n.t.word) (.string n.t.unit) kv) ∧ Hid (SB (w1.alloc (.cells #[.int .u8 58, .string nm, .string ⟨#[]⟩, .string ⟨#[]⟩, .slice none 0 0, .int .i64 0] 278)) (w.heap.size + 1) (.int .u8 0) (.string ⟨#[]⟩) (.string ⟨#[]⟩) (.string ⟨#[]⟩) (.slice none 0 0) (.int .i64 0)) ∧ Hid (SB (w1.alloc (.cells #[.int .u8 58, .string nm, .string ⟨#[]⟩, .string ⟨#[]⟩, .slice none 0 0, .int .i64 0] 278)) w1.heap.size (.int .u8 58) (.string nm) (.string ⟨#[]⟩) (.string ⟨#[]⟩) (.slice none 0 0) (.int .i64 0)) ∧ w.heap.size + 2 ≤ w1.heap.size ∧ Hid (Below w.heap.size w (w1.alloc (.cells #[.int .u8 58, .string nm, .string ⟨#[]⟩, .string ⟨#[]⟩, .slice none 0 0, .int .i64 0] 278))) := by
  have hs1 : w.heap.size + 2 ≤ w1.heap.size := by have := hb1.size; simpa using this
  exact ⟨(X0.out.below hb1).alloc _, (R0.out.below hb1).alloc _, heap_alloc_new w1 _, hs1, ((((Below.refl _ _).alloc (Nat.le_refl _) _).alloc (by simp) _).trans (hb1.mono (by simp; omega))).alloc (by omega) _⟩
section
def nthE (w : ByteArray) (l3 : List Nd) : Option Simple :=
  match l3 with
  | [v] => (placeOf v.t).map (fun p => .mk 58 w nob nob [] p)
  | _ => none
def TB (w : World) (g : Nat) (t : Tok) : Prop := w.heap[g]? = some (.cells #[.int .i64 t.kind, .string t.word, .string t.unit] 93 (0, 0))
section
variable {w w' : World} {g : Nat} {t : Tok}
theorem TB.lt (h : TB w g t) : g < w.heap.size := (Array.getElem?_eq_some_iff.1 h).1
theorem TB.cs (h : TB w g t) : w.cell? ⟨g, 0, none⟩ = some (.int .i64 t.kind) ∧ w.cell? ⟨g, 1, none⟩ = some (.string t.word) ∧ w.cell? ⟨g, 2, none⟩ = some (.string t.unit) := by
  refine ⟨?_, ?_, ?_⟩ <;> (unfold World.cell?; rw [h]; rfl)
theorem TB.keep (h : TB w g t) (e' : w'.heap[g]? = w.heap[g]?) : TB w' g t := by unfold TB; rw [e']; exact h
theorem TB.below (h : TB w g t) (hb : Below w.heap.size w w') : TB w' g t := h.keep (hb.block g h.lt)
end
theorem SB.set5 {w : World} {g : Nat} {a b c d e f : Value} (h : SB w g a b c d e f) (x : Value) : SB (w.setCell ⟨g, 5, none⟩ x) g a b c d e x := by
  have hl := h.lt
  unfold SB at h ⊢
  simp only [World.setCell, Array.getElem?_modify, h]
  simp
structure PSt (W : World) (sb tb : Nat) (nm : ByteArray) (p : Int) (t : Tok) (w : World) : Prop where
  r : SB w (W.heap.size + 1) (.int .u8 0) (.string ⟨#[]⟩) (.string ⟨#[]⟩) (.string ⟨#[]⟩) (.slice none 0 0) (.int .i64 0)
  s : SB w sb (.int .u8 58) (.string nm) (.string ⟨#[]⟩) (.string ⟨#[]⟩) (.slice none 0 0) (.int .i64 p)
  t : TB w tb t
  b : Below W.heap.size W w
theorem PSt.next {W : World} {sb tb : Nat} {nm : ByteArray} {p : Int} {t : Tok} {w w' : World} (h : PSt W sb tb nm p t w) (hb : Below w.heap.size w w') : PSt W sb tb nm p t w' :=
  ⟨h.r.below hb, h.s.below hb, h.t.below hb, h.b.trans (hb.mono h.b.size)⟩
theorem PSt.place {W : World} {sb tb : Nat} {nm : ByteArray} {p : Int} {t : Tok} {w : World} (h : PSt W sb tb nm p t w) (hs : W.heap.size + 1 < sb) (ht : sb ≠ tb) (q : Int) : PSt W sb tb nm q t (w.setCell ⟨sb, 5, none⟩ (.int .i64 q)) :=
  ⟨h.r.keep (Below.heap_setCell _ _ _ _ (by show W.heap.size + 1 ≠ sb; omega)), h.s.set5 _, h.t.keep (Below.heap_setCell _ _ _ _ (by show tb ≠ sb; exact fun e => ht e.symm)), h.b.setCell (p := ⟨sb, 5, none⟩) (by show W.heap.size ≤ sb; omega) _⟩
end
end Go.Proofs.YtlliliddljkbfaaGreat
