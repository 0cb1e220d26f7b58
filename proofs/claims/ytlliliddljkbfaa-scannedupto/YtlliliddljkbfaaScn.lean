/-
  The law itself: whatever the texts, it hands back true.
-/
import Derived.Test.YtlliliddljkbfaaRnd
namespace Go.Proofs.Ytlliliddljkbfaa
open Go.RowKit Sp
set_option maxRecDepth 100000

theorem six {ts : List Tok} (h : Hid ((⟨#[97, 123, 120, 58, 49, 46, 53, 112, 120, 125]⟩ : ByteArray).size ≤ 600 → ts = toks (Sp.clean ⟨#[97, 123, 120, 58, 49, 46, 53, 112, 120, 125]⟩))) : ts.length = 6 := by
  rw [h.out (by decide)]
  kernel_rfl

/-- What the law is handed: texts, each in its cell. -/
def Texts (W : World) (ad : Option Addr) (n : Nat) : Prop := ∀ i, i < n → ∃ (a : Addr) (s : ByteArray), ad = some a ∧ a.block < W.heap.size ∧ W.cell? (a.add i) = some (.string s) ∧ s.size ≤ maxLen
def Named0 (W : World) : Prop := ∃ m, W.cell? ⟨0, 0, none⟩ = some (.int .i64 m)
theorem Named0.pos {W : World} (h : Named0 W) : 0 < W.heap.size := by
  obtain ⟨m, hm⟩ := h
  by_cases e : W.heap.size = 0
  · have : W.heap[0]? = none := Array.getElem?_eq_none (by omega)
    unfold World.cell? at hm
    rw [this] at hm
    cases hm
  · omega
theorem Named0.below {W w : World} (h : Named0 W) (hb : Below W.heap.size W w) : Named0 w := by
  obtain ⟨m, hm⟩ := h
  exact ⟨m, by rw [hb.cell (p := ⟨0, 0, none⟩) (Named0.pos ⟨m, hm⟩)]; exact hm⟩

set_option maxRecDepth 100000 in
set_option maxHeartbeats 4000000 in
theorem Scanned_c (ad : Option Addr) (n cap : Nat) (W : World) (hn : n ≤ 1048576) (ht : Texts W ad n) (hg : Named0 W) :
    Calls Try.prog 3 #[.slice ad n cap] W fun e w' => e = .returned (.bool true) ∧ Below W.heap.size W w' := by
  have HT : Hid (Texts W ad n) := ht
  have HG : Hid (Named0 W) := hg
  obtain ⟨iT, hiT⟩ := info_grp
  have HI : Hid (Try.prog.info? 27 = some iT ∧ iT.zero = some (.slice none 0 0) ∧ iT.size = 1 ∧ iT.bytes = 24) := hiT
  clear ht hg hiT
  go_enter Try.func3, Try.ntmps3
  go_wp2_with fail
  refine (tokens_c _ W (by decide) HG.out HG.out.pos).mono ?_
  rintro e w1 ⟨l, ts, rfl, hts, H6, ho, hb⟩
  have h6 := six H6
  obtain ⟨owner, hi, hm⟩ := Inv.start hb hts ho
  have HInv : Hid (Inv W w1 [] (.slice none 0 0) owner) := hi
  have HMine : Hid (Mine W w1 owner 0 l ts) := hm
  obtain ⟨la, lc, hlf⟩ := ownsRow_form ho
  rw [h6] at hlf
  subst hlf
  clear hi hm ho hb hts H6
  go_wp2_with fail
  refine (own_c _ 6 W.heap.size ts 1000 w1 (by have := HMine.out.row; rw [h6] at this; exact this) h6 (by omega)).mono ?_
  rintro e w2 hp
  have HP : Hid (OwnPost w1 (.slice la 6 lc) ts.length (1000 + (([] : List Nat).length : Int)) e w2) := by rw [h6]; exact hp
  obtain ⟨G, one, two, three, he, hG, hblk, m1, m2, m3, m4, hgr⟩ := hp
  have HR : Hid (∀ o, (w2.alloc o).ownsRow W.heap.size 27 1 (.slice none 0 0) 0 []) := fun o => HInv.out.row HMine.out hgr o
  have hsz := hgr.size
  have hsW := HInv.out.below.size
  subst he
  clear hG hblk m1 m2 m3 m4 hgr
  go_wp2_with (at_builtin; go_must (refine wpList_append_own_at _ rfl _ _ 26 rfl W.heap.size 27 iT (.slice none 0 0) 1 24 Try.underlying26 HI.out.1 HI.out.2.1 HI.out.2.2.1 HI.out.2.2.2 rfl (by omega) (.slice none 0 0) 0 [] rfl (HR.out _) ⟨w2.heap.size, 0, none⟩ 1 1 [.slice (some ⟨G, 0, none⟩) 4 4] rfl rfl (cell_one_new _ _ _) (by simp [Value.oneCell']) (by unfold maxLen; omega) (by omega) (by simp; omega) ?_))
  intro va w3 hown hgr hnil hat
  obtain ⟨owner1, G1, hG1, hi1, _⟩ := HInv.out.step HMine.out HP.out rfl hown hgr hat
  have HI1 : Hid (Inv W w3 [G1] va owner1) := hi1
  clear hown hgr hnil hat hi1 hG1 HR HP HInv HMine hsz hsW h6
  go_wp2_with fail
  go_loopg [3, 4, 5, 6, 7, 8, 9, 10] n (fun g v3 v4 v5 v6 v7 v8 v9 v10 wr => ∃ (i : Nat) (va : Value) (gs : List Nat), i + g = n ∧ va = v5 ∧ v6 = .int .i64 (i : Int) ∧ gs.length = 2 * i + 1 ∧ Aside (∃ owner, Inv W wr gs va owner))
  case atStart => exact ⟨0, va, [G1], by omega, rfl, rfl, rfl, owner1, HI1.out⟩
  case round =>
    obtain ⟨i, vb, gs, hi, rfl, rfl, hgs, hA⟩ := hrel
    obtain ⟨owner, hInv⟩ := hA.out
    have HInv : Hid (Inv W wr gs vb owner) := hInv
    have hB := hInv.below
    have HGS : Hid (gs.length = 2 * i + 1) := hgs
    have hgb : gs.length ≤ 2 * n + 1 := by omega
    clear hA hInv HI1 hgs
    by_cases hlt : i < n
    · have hlt' : (i : Int) < (n : Int) := by omega
      obtain ⟨a, s, rfl, hab, hac, hss⟩ := HT.out i hlt
      have hca : wr.cell? (a.add i) = some (.string s) := by rw [hB.cell (by unfold Addr.add; split <;> exact hab)]; exact hac
      have HN : Hid (Named0 wr) := HG.out.below hB
      have HB : Hid (Below W.heap.size W wr) := hB
      have HS : Hid (s.size ≤ maxLen) := hss
      have HAC : Hid (W.cell? (a.add i) = some (.string s)) := hac
      obtain ⟨go, hgo⟩ : ∃ go, go = gk := ⟨_, rfl⟩
      have hio : i + go = n := by omega
      clear hi hB hac hss
      go_wp2_with fail
      refine (tokens_c s wr HS.out HN.out HN.out.pos).mono ?_
      rintro e w1 ⟨l, ts, rfl, hts, H6, ho1, hb1⟩
      have HO1 : Hid (w1.ownsRow wr.heap.size 35 3 l ts.length (tokCells ts)) := ho1
      have HB1 : Hid (Below wr.heap.size wr w1) := hb1
      have HN1 : Hid (Named0 w1) := HN.out.below hb1
      have hca1 : w1.cell? (a.add i) = some (.string s) := by rw [hb1.cell (by have := HB.out.size; unfold Addr.add; split <;> (show a.block < _; omega))]; exact hca
      clear H6 ho1 hb1 hca
      go_wp2_with fail
      refine (tokens_c s w1 HS.out HN1.out HN1.out.pos).mono ?_
      rintro e w2 ⟨m, ts2, rfl, hts2, H6, ho2, hb2⟩
      obtain ⟨owner0, hi0, hml, hmm⟩ := HInv.out.two HB1.out hts HO1.out hb2 hts2 ho2
      have HInv0 : Hid (Inv W w2 gs vb owner0) := hi0
      have HL : Hid (Mine W w2 owner0 gs.length l ts) := hml
      have HM : Hid (Mine W w2 owner0 (gs.length + 1) m ts2) := hmm
      clear hi0 hml hmm H6 ho2 hb2 HInv HO1 HB1 HN1 HN hca1 HB HAC
      obtain ⟨va0, vc0, hvb⟩ := ownsRow_form HInv0.out.own
      subst hvb
      have hwr : IntKind.i64.wrap (1000 + (gs.length : Int)) = 1000 + (gs.length : Int) := by
        rw [IntKind.wrap_i64]; omega
      go_wp2_with fail
      refine (own_c _ ts.length W.heap.size ts _ w2 HL.out.row rfl hts).mono ?_
      rintro e w3 hp
      have HP : Hid (OwnPost w2 l ts.length (1000 + (gs.length : Int)) e w3) := hp
      obtain ⟨GG, one, two, three, he, hG, hblk, m1, m2, m3, m4, hgr⟩ := hp
      have HR : Hid (∀ o, (w3.alloc o).ownsRow W.heap.size 27 1 (.slice va0 gs.length vc0) gs.length (gs.map grpV)) := fun o => HInv0.out.row HL.out hgr o
      have hsz := hgr.size
      have hsW := HInv0.out.below.size
      subst he
      clear hG hblk m1 m2 m3 m4 hgr
      go_wp2_with (at_builtin; go_must (refine wpList_append_own_at _ rfl _ _ 26 rfl W.heap.size 27 iT (.slice none 0 0) 1 24 Try.underlying26 HI.out.1 HI.out.2.1 HI.out.2.2.1 HI.out.2.2.2 rfl (by omega) (.slice va0 gs.length vc0) gs.length (gs.map grpV) rfl (HR.out _) ⟨w3.heap.size, 0, none⟩ 1 1 [.slice (some ⟨GG, 0, none⟩) 4 4] rfl rfl (cell_one_new _ _ _) (by simp [Value.oneCell']) (by unfold maxLen; omega) (by omega) (by simp; omega) ?_))
      intro vd w4 hown hgr hnil hat
      obtain ⟨owner1, G2, hG2, hi2, hk⟩ := HInv0.out.step HL.out HP.out rfl hown hgr hat
      have HI2 : Hid (Inv W w4 (gs ++ [G2]) vd owner1) := hi2
      have HM2 : Hid (Mine W w4 owner1 (gs ++ [G2]).length m ts2) := by
        have := hk _ m ts2 (by omega) HM.out
        have e : (gs ++ [G2]).length = gs.length + 1 := by simp
        rw [e]; exact this
      obtain ⟨va1, vc1, hvd⟩ := ownsRow_form hi2.own
      obtain ⟨gs2, hgs2⟩ : ∃ gs2, gs2 = gs ++ [G2] := ⟨_, rfl⟩
      have HGL : Hid (gs2.length = 2 * i + 2) := by show _ = _; rw [hgs2]; have := HGS.out; simp; omega
      have hgb2 : gs2.length ≤ 2 * n + 2 := by have := HGL.out; omega
      rw [← hgs2] at HI2 HM2 hvd
      subst hvd
      clear hown hgr hnil hat hi2 hk hG2 HR HP HInv0 HL HM hsz hsW hwr hgs2 HGS hgb
      have hwr2 : IntKind.i64.wrap (1000 + (gs2.length : Int)) = 1000 + (gs2.length : Int) := by
        rw [IntKind.wrap_i64]; omega
      go_wp2_with fail
      refine (own_c _ ts2.length W.heap.size ts2 _ w4 HM2.out.row rfl hts2).mono ?_
      rintro e w5 hp
      have HP : Hid (OwnPost w4 m ts2.length (1000 + (gs2.length : Int)) e w5) := hp
      obtain ⟨GH, one', two', three', he, hG, hblk, m1, m2, m3, m4, hgr⟩ := hp
      have HR : Hid (∀ o, (w5.alloc o).ownsRow W.heap.size 27 1 (.slice va1 gs2.length vc1) gs2.length (gs2.map grpV)) := fun o => HI2.out.row HM2.out hgr o
      have hsz := hgr.size
      have hsW := HI2.out.below.size
      subst he
      clear hG hblk m1 m2 m3 m4 hgr
      go_wp2_with (at_builtin; go_must (refine wpList_append_own_at _ rfl _ _ 26 rfl W.heap.size 27 iT (.slice none 0 0) 1 24 Try.underlying26 HI.out.1 HI.out.2.1 HI.out.2.2.1 HI.out.2.2.2 rfl (by omega) (.slice va1 gs2.length vc1) gs2.length (gs2.map grpV) rfl (HR.out _) ⟨w5.heap.size, 0, none⟩ 1 1 [.slice (some ⟨GH, 0, none⟩) 4 4] rfl rfl (cell_one_new _ _ _) (by simp [Value.oneCell']) (by unfold maxLen; omega) (by omega) (by simp; omega) ?_))
      intro vd w6 hown hgr hnil hat
      obtain ⟨owner2, G3, hG3, hi3, _⟩ := HI2.out.step HM2.out HP.out rfl hown hgr hat
      have HI3 : Hid (Inv W w6 (gs2 ++ [G3]) vd owner2) := hi3
      obtain ⟨gs3, hgs3⟩ : ∃ gs3, gs3 = gs2 ++ [G3] := ⟨_, rfl⟩
      have HGL3 : Hid (gs3.length = 2 * i + 3) := by show _ = _; rw [hgs3]; have := HGL.out; simp; omega
      have hgb3 : gs3.length ≤ 2 * n + 3 := by have := HGL3.out; omega
      rw [← hgs3] at HI3
      have hvd : ∃ g3 c3, vd = .slice (some ⟨g3, 0, none⟩) gs3.length c3 := by
        rcases HI3.out.own.2 with ⟨_, h⟩ | ⟨g, cap, cur, rfl, _⟩
        · have := HGL3.out; omega
        · exact ⟨g, cap, rfl⟩
      obtain ⟨g3, c3, hvd⟩ := hvd
      subst hvd
      clear hown hgr hnil hat hi3 hG3 HR HP HI2 HM2 hsz hsW hwr2 hgs3 HGL hgb2 hts hts2
      go_wp2_with fail
      go_loopg [9, 10] gs3.length (fun gg v9 v10 wr => ∃ k : Nat, k + gg = gs3.length ∧ v9 = .int .i64 (k : Int) ∧ Aside (w6 = wr))
      case atStart => exact ⟨0, by omega, rfl, rfl⟩
      case round =>
        obtain ⟨k, hk, rfl, hA⟩ := hrel
        obtain rfl := hA.out
        clear hA
        by_cases hkn : k < gs3.length
        · have hkn' : (k : Int) < (gs3.length : Int) := by omega
          have hcell := HI3.out.at k hkn
          have hwk : IntKind.i64.wrap (1000 + (k : Int)) = 1000 + (k : Int) := by rw [IntKind.wrap_i64]; omega
          have HF : Hid (Fam w6 owner2 k gs3[k]) := HI3.out.fam k hkn
          obtain ⟨gkk, hgkk⟩ : ∃ x, x = gs3[k] := ⟨_, rfl⟩
          rw [← hgkk] at hcell HF
          clear hgkk
          go_wp2_with fail
          refine (still_c gkk (1000 + (k : Int)) w6 HF.out.reads).mono ?_
          rintro e wq ⟨rfl, hwq⟩
          rw [hwq]
          clear hwq wq
          go_wp2_with fail
          go_roundg (gk - 1)
          case measure => omega
          case rel => exact ⟨k + 1, by omega, by congr 1, rfl⟩
        · have hkn' : (gs3.length : Int) ≤ (k : Int) := by omega
          go_wp2_with fail
          go_roundg (go - 1)
          case measure => omega
          case rel => exact ⟨i + 1, _, gs3, by omega, rfl, by congr 1, by have := HGL3.out; omega, owner2, HI3.out⟩
    · have hlt' : (n : Int) ≤ (i : Int) := by omega
      go_wp2_with fail
      go_ret
      exact ⟨rfl, hB⟩
end Go.Proofs.Ytlliliddljkbfaa
