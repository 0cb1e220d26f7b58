import Derived.Test.YtlliliddljkbfaaGreatC6
import Derived.Test.YtlliliddljkbfaaGreatC10
import Derived.Test.YtlliliddljkbfaaGreatC21
namespace Go.Proofs.YtlliliddljkbfaaGreat
set_option maxHeartbeats 64000000
set_option maxRecDepth 100000
open Go.RowKit Sp
section
attribute [local go_sem] fld_tok fld_ins fld_kind fld_word
theorem Q4.put {T : TypeId} {w : World} {b : Nat} {x0 x1 x2 x3 : Value} (h : Q4 T w b x0 x1 x2 x3) (y0 y1 y2 y3 : Value) : Q4 T (set4 w b y0 y1 y2 y3) b y0 y1 y2 y3 := by
  have h' : w.heap[b]? = _ := h
  show _ = _
  simp only [set4, World.setCell, Array.getElem?_modify, h']
  simp
theorem ruleMk_some {at_ : ByteArray} {hd : List Nd} {bo : Option (List Nd)} {rest : List Nd} (h : bo.isSome = true ∨ at_ ≠ nob) : ∃ rr, ruleMk (at_, hd, bo, rest) = [rr] ∧ rr.at_.getD nob = at_ ∧ rr.head = hd ∧ rr.body = bo := by
  unfold ruleMk
  by_cases he : at_ = nob
  · rcases h with h | h
    · cases bo with
      | none => cases h
      | some b => exact ⟨_, by simp only [he, if_true]; rfl, by simp [he], rfl, rfl⟩
    · exact absurd he h
  · exact ⟨_, by simp only [if_neg he]; rfl, rfl, rfl, rfl⟩
theorem ruleMk_name {at_ : ByteArray} {hd : List Nd} {bo : Option (List Nd)} {rest : List Nd} {rr : Rule} (h : ruleMk (at_, hd, bo, rest) = [rr]) {x : ByteArray} (hx : rr.at_ = some x) : x ≠ nob := by
  unfold ruleMk at h
  by_cases he : at_ = nob
  · simp only [he, if_true] at h
    cases bo with
    | none => cases h
    | some b => cases h; cases hx
  · simp only [if_neg he] at h
    cases h
    cases hx
    exact he
theorem readAll_c (B : Nat) (sh : Bool) (l : List Nd) (v : Value) (zs : List Int) (sg : Nat) (w : World) (h : Sl (fun b => b < B) w v l) (hB : B ≤ w.heap.size) (hz : zs.length ≤ 10) (hsg : sg < w.heap.size)
    (hc : ∀ j, j < zs.length → w.cell? ⟨sg, 0 + j, none⟩ = some (.int .i64 (zs.getD j 0))) (hp : ∀ n : Nd, zs.contains n.t.kind = passN sh n) :
    Calls Tryz.prog 115 #[v, .slice (some ⟨sg, 0, none⟩) zs.length zs.length] w fun e w' => ∃ u, e = .returned u ∧ SG CRule 4 (fun b => b < w'.heap.size) w' u (rules sh l) ∧ Below w.heap.size w w' := by
  have hl6 := h.len
  have HS : Hid (Sl (fun b => b < B) w v l) := h
  have HC : Hid (∀ j, j < zs.length → w.cell? ⟨sg, 0 + j, none⟩ = some (.int .i64 (zs.getD j 0))) := hc
  have HP : Hid (∀ n : Nd, zs.contains n.t.kind = passN sh n) := hp
  obtain ⟨a, cap, rfl⟩ := h.form
  clear h hc hp
  obtain ⟨iT, hiT⟩ := info_rule
  have HI : Hid (Tryz.prog.info? 130 = some iT ∧ iT.zero = some (.agg #[.string ⟨#[]⟩, .slice none 0 0, .bool false, .slice none 0 0]) ∧ iT.size = 4 ∧ iT.bytes = 72) := hiT
  clear hiT
  go_enter Tryz.func115, Tryz.ntmps115
  go_wp2_with fail
  go_loopg [0, 5] l.length (fun gg v0 v5 wr => ∃ (u cv : Value) (acc : List Rule) (cs : List Value) (cur : List Nd), u = v5 ∧ cv = v0 ∧ cur.length ≤ gg ∧ acc.length ≤ 600 ∧ Aside (RaI B sh w l u acc cs cv cur wr))
  case atStart => exact ⟨_, _, [], [], l, rfl, rfl, by omega, by simp, World.ownsRow_nil _ _ _ _, rfl, HS.out, Below.refl _ _, rfl, by simp⟩
  case round =>
    obtain ⟨u, cv, acc, cs, cur, rfl, rfl, hcl, hal, hA⟩ := hrel
    have HR : Hid (RaI B sh w l u acc cs cv cur wr) := hA.out
    clear hA
    obtain ⟨ua, uc, rfl⟩ := own_form HR.out.row
    have hsr := HR.out.below.size
    cases cur with
    | nil =>
      obtain ⟨ca, cc, rfl⟩ := HR.out.now.form
      have HV : Hid (rules sh l = acc) := by show _ = _; rw [HR.out.eq]; exact List.append_nil _
      go_wp2_with fail
      go_ret
      exact ⟨_, rfl, by rw [HV.out]; exact own_sg CRule.fair CRule.sized HR.out.row HR.out.cat (fun g hg => by have hg' : g < B := hg; omega) (by omega), HR.out.below⟩
    | cons n r =>
      obtain ⟨g, o, nv, cap', rfl, hN, hcap⟩ := HR.out.now.head
      have c0 := hN.c0
      have HTOK : Hid (TokOK n.t) := hN.ok
      clear hN
      have h1 : (0 : Int) < ((r.length + 1 : Nat) : Int) := by omega
      simp only [List.length_cons] at hcl
      have HZC : ∀ j, j < zs.length → wr.cell? ⟨sg, 0 + j, none⟩ = some (.int .i64 (zs.getD j 0)) := fun j hj => by rw [HR.out.below.cell (p := ⟨sg, _, none⟩) hsg]; exact HC.out j hj
      have HCT := Tryz.slices_Contains_int sg 0 zs.length zs.length zs n.t.kind wr (Nat.le_refl _) (by omega) HZC
      rw [List.take_of_length_le (Nat.le_refl _), HP.out n] at HCT
      obtain ⟨z, Hz⟩ : ∃ z, Hid (passN sh n = z) := ⟨_, hid rfl⟩
      rw [Hz.out] at HCT
      have HCT' : Hid (Calls Tryz.prog 186 #[.slice (some ⟨sg, 0, none⟩) zs.length zs.length, .int .i64 n.t.kind] wr fun e w' => e = .returned (.bool z) ∧ w' = wr) := HCT
      clear HCT HZC
      obtain ⟨a1, hr1, hS1⟩ := HR.out.now.cut1v
      have HS1 : Hid (Sl (fun b => b < B) wr (.slice a1 r.length (cap' - 1)) r) := hS1
      clear hS1
      have hln := HR.out.ln
      simp only [List.length_cons] at hln
      go_wp2_with fail
      refine HCT'.out.mono ?_
      rintro e wq ⟨rfl, hwq⟩
      rw [hwq]
      clear hwq HCT'
      cases z
      · clear hr1 HS1
        obtain ⟨⟨at_, hd, bo, rest⟩, Ho⟩ : ∃ o, Hid (ruleOne n r = o) := ⟨_, hid rfl⟩
        have HNM : Hid (n.t.kind = 10 → n.t.word ≠ nob) := fun hk e => by have := HTOK.out.named (.inr (.inl hk)); rw [e] at this; exact absurd this (by decide)
        have HEQ : Hid (rules sh l = acc ++ (ruleMk (at_, hd, bo, rest) ++ rules sh rest)) := by show _ = _; rw [HR.out.eq, rules_one Hz.out HNM.out, Ho.out]
        have HRL : rest.length ≤ r.length := by
          have e : (ruleOne n r).2.2.2 = rest := by rw [Ho.out]
          rw [← e]
          unfold ruleOne
          split
          · have := cutN_len (fun m => isSemi m || isBody m) r; show (cutN _ r).2.2.length ≤ _; omega
          · have := cutN_len isBody (n :: r); simp only [List.length_cons] at this; show (cutN _ (n :: r)).2.2.length ≤ _; omega
        have HLN : Hid (acc.length + 1 + rest.length ≤ l.length) := by show _ ≤ _; omega
        have HAT : Hid (at_.size ≤ 4000000) := by
          have e : (ruleOne n r).1 = at_ := by rw [Ho.out]
          rw [← e]
          unfold ruleOne
          split
          · exact HTOK.out.word
          · show 0 ≤ _; omega
        have Q2 : Hid (Q4 130 (wr.alloc (.cells #[.string ⟨#[]⟩, .slice none 0 0, .bool false, .slice none 0 0] 130)) wr.heap.size (.string ⟨#[]⟩) (.slice none 0 0) (.bool false) (.slice none 0 0)) := Q4.new _ _ _ _ _ _
        have X2 : Hid (Below wr.heap.size wr (wr.alloc (.cells #[.string ⟨#[]⟩, .slice none 0 0, .bool false, .slice none 0 0] 130))) := (Below.refl _ _).alloc (Nat.le_refl _) _
        go_upto_region 6 with fail
        generalize wr.alloc (.cells #[.string ⟨#[]⟩, .slice none 0 0, .bool false, .slice none 0 0] 130) = w2 at *
        obtain ⟨gt, Hgt⟩ : ∃ gt, Hid (wr.heap.size = gt) := ⟨_, hid rfl⟩
        have Q3 : Hid (Q4 130 w2 gt (.string ⟨#[]⟩) (.slice none 0 0) (.bool false) (.slice none 0 0)) := by rw [← Hgt.out]; exact Q2.out
        rw [Hgt.out]
        clear Q2
        have hs2 := X2.out.size
        go_wp2_with fail
        refine (readRule_c B n r _ w2 (HR.out.now.below X2.out (by omega)) (by omega)).mono ?_
        rw [Ho.out]
        rintro e w3 ⟨hv, bv, v2, rfl, hrv, hbh, hb3⟩
        obtain ⟨va, vc, rfl⟩ := hrv.head.form
        obtain ⟨bl, hbl, hbe⟩ := hrv.body
        obtain ⟨ka, kc, rfl⟩ := hbl.form
        obtain ⟨ba, bc, rfl⟩ := hbh.form
        have X3 : Hid (Below wr.heap.size wr w3) := X2.out.trans (hb3.mono hs2)
        have QQ3 : Hid (Q4 130 w3 gt (.string ⟨#[]⟩) (.slice none 0 0) (.bool false) (.slice none 0 0)) := Q3.out.below hb3
        have HA3 : Hid (Sl (fun b => b < B) w3 (.slice va hd.length vc) hd) := hrv.head
        have HB3 : Hid (Sl (fun b => b < B) w3 (.slice ba rest.length bc) rest) := hbh
        have HK3 : Hid (Sl (fun b => b < B) w3 (.slice ka bl.length kc) bl) := hbl
        have HBD : Hid (∀ b, bo = some b → bl = b) := hbe
        have hs3 := X3.out.size
        clear hrv hbl hbe hbh hb3 Q3 c0
        obtain ⟨hs, Hhs⟩ : ∃ hs, Hid (bo.isSome = hs) := ⟨_, hid rfl⟩
        rw [Hhs.out]
        have hlg := QQ3.out.lt
        have hgB : ∀ k, k < B → (set4 w3 gt (.string at_) (.slice va hd.length vc) (.bool hs) (.slice ka bl.length kc)).heap[k]? = w3.heap[k]? := fun k hk => set4_other w3 (by have := Hgt.out; omega) _ _ _ _
        have BW4 : Hid (Below w.heap.size w (set4 w3 gt (.string at_) (.slice va hd.length vc) (.bool hs) (.slice ka bl.length kc))) := set4_below (HR.out.below.trans (X3.out.mono hsr)) (by have := Hgt.out; omega) _ _ _ _
        have R4 : Hid ((set4 w3 gt (.string at_) (.slice va hd.length vc) (.bool hs) (.slice ka bl.length kc)).ownsRow w.heap.size 130 4 (.slice ua acc.length uc) acc.length cs) := own_keep HR.out.row fun k hk => by have := (HR.out.row.lt k hk).2; rw [set4_other w3 (by have := Hgt.out; omega)]; exact X3.out.block k this
        have CT4 : Hid (CatG CRule (fun b => b < B) (set4 w3 gt (.string at_) (.slice va hd.length vc) (.bool hs) (.slice ka bl.length kc)) acc cs) := HR.out.cat.keep CRule.fair (fun _ h => h) (fun k hk => by have hk' : k < B := hk; rw [hgB k hk']; exact X3.out.block k (by omega))
        have HA4 : Hid (Sl (fun b => b < B) (set4 w3 gt (.string at_) (.slice va hd.length vc) (.bool hs) (.slice ka bl.length kc)) (.slice va hd.length vc) hd) := HA3.out.keep (fun _ h => h) hgB
        have HB4 : Hid (Sl (fun b => b < B) (set4 w3 gt (.string at_) (.slice va hd.length vc) (.bool hs) (.slice ka bl.length kc)) (.slice ba rest.length bc) rest) := HB3.out.keep (fun _ h => h) hgB
        have HK4 : Hid (Sl (fun b => b < B) (set4 w3 gt (.string at_) (.slice va hd.length vc) (.bool hs) (.slice ka bl.length kc)) (.slice ka bl.length kc) bl) := HK3.out.keep (fun _ h => h) hgB
        have Q5 : Hid (Q4 130 (set4 w3 gt (.string at_) (.slice va hd.length vc) (.bool hs) (.slice ka bl.length kc)) gt (.string at_) (.slice va hd.length vc) (.bool hs) (.slice ka bl.length kc)) := QQ3.out.put _ _ _ _
        have ATN : Hid (∀ rr : Rule, ruleMk (at_, hd, bo, rest) = [rr] → ∀ x, rr.at_ = some x → x ≠ nob) := fun rr h x hx => ruleMk_name h hx
        have z0 := QQ3.out.fz 0
        have z1 := QQ3.out.fz 1
        have z2 := QQ3.out.fz 2
        have z3 := QQ3.out.fz 3
        obtain ⟨q0, q1, q2, q3⟩ := QQ3.out.cs
        go_upto_region 7 with fail
        change Code.wp _ _ _ _ (set4 w3 gt (.string at_) (.slice va hd.length vc) (.bool hs) (.slice ka bl.length kc))
        have hs4 := BW4.out.size
        clear q0 q1 q2 q3 z0 z1 z2 z3 hgB HA3 HB3 HK3
        generalize set4 w3 gt (.string at_) (.slice va hd.length vc) (.bool hs) (.slice ka bl.length kc) = w4 at *
        obtain ⟨q0, q1, q2, q3⟩ := Q5.out.cs
        by_cases he : at_.toList = []
        · have HEN : Hid (at_ = nob) := by
            show at_ = nob
            have := bytes_lit at_ []
            rw [he] at this
            exact of_decide_eq_true this.symm
          cases hs
          · have HMK : Hid (ruleMk (at_, hd, bo, rest) = []) := by
              show _ = _
              unfold ruleMk
              rw [if_pos HEN.out]
              cases hb : bo with
              | none => rfl
              | some b => have := Hhs.out; rw [hb] at this; cases this
            have HC6 : Hid (RaI B sh w l (.slice ua acc.length uc) acc cs (.slice ba rest.length bc) rest w4) := ⟨R4.out, CT4.out, HB4.out, BW4.out, by rw [HEQ.out, HMK.out]; rfl, by have := HLN.out; omega⟩
            go_wp2_with fail
            go_roundg (gk - 1)
            case measure => omega
            case rel => exact ⟨_, _, acc, cs, rest, rfl, rfl, by omega, hal, HC6.out⟩
          · have HMK := ruleMk_some (hd := hd) (rest := rest) (at_ := at_) (.inl Hhs.out)
            obtain ⟨rr, Hrr, Hat, Hhd, Hbo⟩ := HMK
            have HRR : Hid (ruleMk (at_, hd, bo, rest) = [rr]) := Hrr
            have HO5 : Hid ((w4.alloc (.cells #[.string at_, .slice va hd.length vc, .bool true, .slice ka bl.length kc] 130)).ownsRow w.heap.size 130 4 (.slice ua acc.length uc) acc.length cs) := R4.out.alloc _
            go_wp2_with (at_builtin; go_must (refine wpList_append_own_at _ rfl _ _ 85 rfl w.heap.size 130 iT (.agg #[.string ⟨#[]⟩, .slice none 0 0, .bool false, .slice none 0 0]) 4 72 Tryz.underlying85 HI.out.1 HI.out.2.1 HI.out.2.2.1 HI.out.2.2.2 rfl (by omega) (.slice ua acc.length uc) acc.length cs rfl HO5.out ⟨w4.heap.size, 0, none⟩ 1 1 [.string at_, .slice va hd.length vc, .bool true, .slice ka bl.length kc] rfl rfl (new4 _ _ _ _ _ _) (by simp [Value.oneCell']) (by unfold maxLen; omega) (by omega) (by simp; omega) ?_))
            intro v6 w6 hown6 hgr6 _ hat6
            have hlo : ∀ rr, Value.ownBlock (.slice ua acc.length uc) = some rr → w.heap.size ≤ rr := fun rr hr => (HO5.out.lt rr hr).1
            have hb6 : Below w.heap.size w4 w6 := ((Below.refl _ _).alloc hs4 _).grown hgr6 (by simp; omega) hlo
            have HC6 : Hid (RaI B sh w l v6 (acc ++ [rr]) (cs ++ [.string at_, .slice va hd.length vc, .bool true, .slice ka bl.length kc]) (.slice ba rest.length bc) rest w6) := ⟨by rw [List.length_append]; exact hown6, CatG.snoc _ _ (CT4.out.keep CRule.fair (fun _ h => h) (fun k hk => hb6.block k (Nat.lt_of_lt_of_le hk hB))) rr _ ⟨_, _, bl, by rw [Hat, Hbo, Hhs.out], by rw [Hhd]; exact HA4.out.below hb6 hB, HK4.out.below hb6 hB, fun b hb => HBD.out b (by rw [← Hbo]; exact hb), fun x hx => ⟨fun e => by rw [hx, e] at Hat; exact ATN.out rr HRR.out x hx e, by have := HAT.out; rw [hx] at Hat; simp at Hat; rw [Hat]; exact this⟩⟩, HB4.out.below hb6 hB, BW4.out.trans hb6, by rw [HEQ.out, HRR.out, List.append_assoc], by have := HLN.out; simp; omega⟩
            have hl6 : (acc ++ [rr]).length ≤ 600 := by have := HC6.out.ln; omega
            clear hown6 hgr6 hat6 hlo hb6
            go_wp2_with fail
            go_roundg (gk - 1)
            case measure => omega
            case rel => exact ⟨_, _, acc ++ [rr], _, rest, rfl, rfl, by omega, hl6, HC6.out⟩
        · have HEN : Hid (at_ ≠ nob) := fun e => he (by rw [e, bytes_toList]; rfl)
          have hie : at_.toList.isEmpty = false := by cases hq : at_.toList with | nil => exact absurd hq he | cons _ _ => rfl
          have hib : (at_.toList == []) = false := by cases hq : at_.toList with | nil => exact absurd hq he | cons _ _ => rfl
          have hin : (at_.toList != []) = true := by rw [bne, hib]; rfl
          cases hs
          · have HMK := ruleMk_some (hd := hd) (rest := rest) (bo := bo) (.inr HEN.out)
            obtain ⟨rr, Hrr, Hat, Hhd, Hbo⟩ := HMK
            have HRR : Hid (ruleMk (at_, hd, bo, rest) = [rr]) := Hrr
            have HO5 : Hid ((w4.alloc (.cells #[.string at_, .slice va hd.length vc, .bool false, .slice ka bl.length kc] 130)).ownsRow w.heap.size 130 4 (.slice ua acc.length uc) acc.length cs) := R4.out.alloc _
            go_wp2_with (at_builtin; go_must (refine wpList_append_own_at _ rfl _ _ 85 rfl w.heap.size 130 iT (.agg #[.string ⟨#[]⟩, .slice none 0 0, .bool false, .slice none 0 0]) 4 72 Tryz.underlying85 HI.out.1 HI.out.2.1 HI.out.2.2.1 HI.out.2.2.2 rfl (by omega) (.slice ua acc.length uc) acc.length cs rfl HO5.out ⟨w4.heap.size, 0, none⟩ 1 1 [.string at_, .slice va hd.length vc, .bool false, .slice ka bl.length kc] rfl rfl (new4 _ _ _ _ _ _) (by simp [Value.oneCell']) (by unfold maxLen; omega) (by omega) (by simp; omega) ?_))
            intro v6 w6 hown6 hgr6 _ hat6
            have hlo : ∀ rr, Value.ownBlock (.slice ua acc.length uc) = some rr → w.heap.size ≤ rr := fun rr hr => (HO5.out.lt rr hr).1
            have hb6 : Below w.heap.size w4 w6 := ((Below.refl _ _).alloc hs4 _).grown hgr6 (by simp; omega) hlo
            have HC6 : Hid (RaI B sh w l v6 (acc ++ [rr]) (cs ++ [.string at_, .slice va hd.length vc, .bool false, .slice ka bl.length kc]) (.slice ba rest.length bc) rest w6) := ⟨by rw [List.length_append]; exact hown6, CatG.snoc _ _ (CT4.out.keep CRule.fair (fun _ h => h) (fun k hk => hb6.block k (Nat.lt_of_lt_of_le hk hB))) rr _ ⟨_, _, bl, by rw [Hat, Hbo, Hhs.out], by rw [Hhd]; exact HA4.out.below hb6 hB, HK4.out.below hb6 hB, fun b hb => HBD.out b (by rw [← Hbo]; exact hb), fun x hx => ⟨fun e => by rw [hx, e] at Hat; exact ATN.out rr HRR.out x hx e, by have := HAT.out; rw [hx] at Hat; simp at Hat; rw [Hat]; exact this⟩⟩, HB4.out.below hb6 hB, BW4.out.trans hb6, by rw [HEQ.out, HRR.out, List.append_assoc], by have := HLN.out; simp; omega⟩
            have hl6 : (acc ++ [rr]).length ≤ 600 := by have := HC6.out.ln; omega
            clear hown6 hgr6 hat6 hlo hb6
            go_wp2_with fail
            go_roundg (gk - 1)
            case measure => omega
            case rel => exact ⟨_, _, acc ++ [rr], _, rest, rfl, rfl, by omega, hl6, HC6.out⟩
          · have HMK := ruleMk_some (hd := hd) (rest := rest) (bo := bo) (.inr HEN.out)
            obtain ⟨rr, Hrr, Hat, Hhd, Hbo⟩ := HMK
            have HRR : Hid (ruleMk (at_, hd, bo, rest) = [rr]) := Hrr
            have HO5 : Hid ((w4.alloc (.cells #[.string at_, .slice va hd.length vc, .bool true, .slice ka bl.length kc] 130)).ownsRow w.heap.size 130 4 (.slice ua acc.length uc) acc.length cs) := R4.out.alloc _
            go_wp2_with (at_builtin; go_must (refine wpList_append_own_at _ rfl _ _ 85 rfl w.heap.size 130 iT (.agg #[.string ⟨#[]⟩, .slice none 0 0, .bool false, .slice none 0 0]) 4 72 Tryz.underlying85 HI.out.1 HI.out.2.1 HI.out.2.2.1 HI.out.2.2.2 rfl (by omega) (.slice ua acc.length uc) acc.length cs rfl HO5.out ⟨w4.heap.size, 0, none⟩ 1 1 [.string at_, .slice va hd.length vc, .bool true, .slice ka bl.length kc] rfl rfl (new4 _ _ _ _ _ _) (by simp [Value.oneCell']) (by unfold maxLen; omega) (by omega) (by simp; omega) ?_))
            intro v6 w6 hown6 hgr6 _ hat6
            have hlo : ∀ rr, Value.ownBlock (.slice ua acc.length uc) = some rr → w.heap.size ≤ rr := fun rr hr => (HO5.out.lt rr hr).1
            have hb6 : Below w.heap.size w4 w6 := ((Below.refl _ _).alloc hs4 _).grown hgr6 (by simp; omega) hlo
            have HC6 : Hid (RaI B sh w l v6 (acc ++ [rr]) (cs ++ [.string at_, .slice va hd.length vc, .bool true, .slice ka bl.length kc]) (.slice ba rest.length bc) rest w6) := ⟨by rw [List.length_append]; exact hown6, CatG.snoc _ _ (CT4.out.keep CRule.fair (fun _ h => h) (fun k hk => hb6.block k (Nat.lt_of_lt_of_le hk hB))) rr _ ⟨_, _, bl, by rw [Hat, Hbo, Hhs.out], by rw [Hhd]; exact HA4.out.below hb6 hB, HK4.out.below hb6 hB, fun b hb => HBD.out b (by rw [← Hbo]; exact hb), fun x hx => ⟨fun e => by rw [hx, e] at Hat; exact ATN.out rr HRR.out x hx e, by have := HAT.out; rw [hx] at Hat; simp at Hat; rw [Hat]; exact this⟩⟩, HB4.out.below hb6 hB, BW4.out.trans hb6, by rw [HEQ.out, HRR.out, List.append_assoc], by have := HLN.out; simp; omega⟩
            have hl6 : (acc ++ [rr]).length ≤ 600 := by have := HC6.out.ln; omega
            clear hown6 hgr6 hat6 hlo hb6
            go_wp2_with fail
            go_roundg (gk - 1)
            case measure => omega
            case rel => exact ⟨_, _, acc ++ [rr], _, rest, rfl, rfl, by omega, hl6, HC6.out⟩
      · have HC4 : Hid (RaI B sh w l (.slice ua acc.length uc) acc cs (.slice a1 r.length (cap' - 1)) r wr) := ⟨HR.out.row, HR.out.cat, HS1.out, HR.out.below, by rw [HR.out.eq, rules_pass Hz.out], by omega⟩
        go_wp2_with fail
        go_roundg (gk - 1)
        case measure => omega
        case rel => exact ⟨_, _, acc, cs, r, rfl, rfl, by omega, hal, HC4.out⟩
end
section
attribute [local go_sem] fld_tok fld_ins fld_kind fld_word
theorem pass_sheet (n : Nd) : ([1, 8, 9] : List Int).contains n.t.kind = passN true n := by
  unfold passN blankN
  rw [Bool.eq_iff_iff]
  simp
theorem pass_body (n : Nd) : ([1] : List Int).contains n.t.kind = passN false n := by
  unfold passN blankN
  rw [Bool.eq_iff_iff]
  simp
theorem rulesRead_c (B : Nat) (l : List Nd) (v : Value) (w : World) (h : Sl (fun b => b < B) w v l) (hB : B ≤ w.heap.size) :
    Calls Tryz.prog 69 #[v] w fun e w' => ∃ u, e = .returned u ∧ SG CRule 4 (fun b => b < w'.heap.size) w' u (rules true l) ∧ Below w.heap.size w w' := by
  obtain ⟨a, cap, rfl⟩ := h.form
  have B1 : Hid (Below w.heap.size w (w.alloc (.cells #[.int .i64 1, .int .i64 8, .int .i64 9] 3))) := (Below.refl _ _).alloc (Nat.le_refl _) _
  have S1 : Hid (Sl (fun b => b < B) (w.alloc (.cells #[.int .i64 1, .int .i64 8, .int .i64 9] 3)) (.slice a l.length cap) l) := h.below B1.out hB
  have HZC : Hid (∀ j, j < 3 → (w.alloc (.cells #[.int .i64 1, .int .i64 8, .int .i64 9] 3)).cell? ⟨w.heap.size, 0 + j, none⟩ = some (.int .i64 (([1, 8, 9] : List Int).getD j 0))) := by
    intro j hj
    have hh : (w.alloc (.cells #[.int .i64 1, .int .i64 8, .int .i64 9] 3)).heap[w.heap.size]? = _ := heap_alloc_new w _
    unfold World.cell?
    rw [hh]
    rcases (show j = 0 ∨ j = 1 ∨ j = 2 by omega) with rfl | rfl | rfl <;> rfl
  clear h
  go_enter Tryz.func69, Tryz.ntmps69
  go_wp2_with fail
  have hlt1 : w.heap.size < (w.alloc (.cells #[.int .i64 1, .int .i64 8, .int .i64 9] 3)).heap.size := by simp
  generalize w.alloc (.cells #[.int .i64 1, .int .i64 8, .int .i64 9] 3) = w1 at *
  refine (readAll_c B true l _ [1, 8, 9] _ w1 S1.out (by omega) (by simp) hlt1 HZC.out pass_sheet).mono ?_
  rintro e w2 ⟨u, rfl, hsg, hb2⟩
  obtain ⟨ua, uc, rfl⟩ := hsg.form
  have B2 : Hid (Below w.heap.size w w2) := B1.out.trans (hb2.mono (by omega))
  have HSG : Hid (SG CRule 4 (fun b => b < w2.heap.size) w2 (.slice ua (rules true l).length uc) (rules true l)) := hsg
  clear hsg hb2
  go_wp2_with fail
  go_ret
  exact ⟨_, rfl, HSG.out, B2.out⟩
theorem rulesBody_c (B : Nat) (l : List Nd) (v : Value) (w : World) (h : Sl (fun b => b < B) w v l) (hB : B ≤ w.heap.size) :
    Calls Tryz.prog 121 #[v] w fun e w' => ∃ u, e = .returned u ∧ SG CRule 4 (fun b => b < w'.heap.size) w' u (rules false l) ∧ Below w.heap.size w w' := by
  obtain ⟨a, cap, rfl⟩ := h.form
  have B1 : Hid (Below w.heap.size w (w.alloc (.cells #[.int .i64 1] 3))) := (Below.refl _ _).alloc (Nat.le_refl _) _
  have S1 : Hid (Sl (fun b => b < B) (w.alloc (.cells #[.int .i64 1] 3)) (.slice a l.length cap) l) := h.below B1.out hB
  have HZC : Hid (∀ j, j < 1 → (w.alloc (.cells #[.int .i64 1] 3)).cell? ⟨w.heap.size, 0 + j, none⟩ = some (.int .i64 (([1] : List Int).getD j 0))) := by
    intro j hj
    have hh : (w.alloc (.cells #[.int .i64 1] 3)).heap[w.heap.size]? = _ := heap_alloc_new w _
    unfold World.cell?
    rw [hh]
    obtain rfl : j = 0 := by omega
    rfl
  clear h
  go_enter Tryz.func121, Tryz.ntmps121
  go_wp2_with fail
  have hlt1 : w.heap.size < (w.alloc (.cells #[.int .i64 1] 3)).heap.size := by simp
  generalize w.alloc (.cells #[.int .i64 1] 3) = w1 at *
  refine (readAll_c B false l _ [1] _ w1 S1.out (by omega) (by simp) hlt1 HZC.out pass_body).mono ?_
  rintro e w2 ⟨u, rfl, hsg, hb2⟩
  obtain ⟨ua, uc, rfl⟩ := hsg.form
  have B2 : Hid (Below w.heap.size w w2) := B1.out.trans (hb2.mono (by omega))
  have HSG : Hid (SG CRule 4 (fun b => b < w2.heap.size) w2 (.slice ua (rules false l).length uc) (rules false l)) := hsg
  clear hsg hb2
  go_wp2_with fail
  go_ret
  exact ⟨_, rfl, HSG.out, B2.out⟩
theorem custom_pre (p : ByteArray) : Lib.hasPrefix p.data.toList [45, 45] = custom p := by
  have h := pre_drop p [45, 45] 0
  rw [List.drop_zero] at h
  unfold Lib.hasPrefix
  rw [h]
  show (pk p 0 == 45 && (pk p 1 == 45 && true)) = (decide (pk p 0 = 45) && decide (pk p 1 = 45))
  rw [Bool.and_true]
  rfl
theorem IsCustom_c (p : ByteArray) (w : World) : Calls Tryz.prog 64 #[.string p] w fun e w' => e = .returned (.bool (custom p)) ∧ w' = w := by
  have HV : Hid (Lib.hasPrefix p.data.toList [45, 45] = custom p) := custom_pre p
  go_enter Tryz.func64, Tryz.ntmps64
  go_wp2_with fail
  refine (Tryz.strings_HasPrefix p ⟨#[45, 45]⟩ w).mono ?_
  rintro e wq ⟨rfl, hwq⟩
  rw [hwq]
  go_wp2_with fail
  go_ret
  exact ⟨rbool HV.out, rfl⟩
theorem Property_c (p : ByteArray) (w : World) (hp : p.size ≤ 4000000) : Calls Tryz.prog 38 #[.string p] w fun e w' => e = .returned (.string (propOf p)) ∧ Below w.heap.size w w' := by
  obtain ⟨z, Hz⟩ : ∃ z, Hid (custom p = z) := ⟨_, hid rfl⟩
  have hc := IsCustom_c p w
  rw [Hz.out] at hc
  have HC : Hid (Calls Tryz.prog 64 #[.string p] w fun e w' => e = .returned (.bool z) ∧ w' = w) := hc
  clear hc
  cases z
  · have HV : Hid (propOf p = small p) := by show _ = _; unfold propOf; rw [Hz.out]; rfl
    go_enter Tryz.func38, Tryz.ntmps38
    go_wp2_with fail
    refine HC.out.mono ?_
    rintro e wq ⟨rfl, hwq⟩
    rw [hwq]
    go_wp2_with fail
    refine (Small_c p _ hp).mono ?_
    rintro e w3 ⟨rfl, hb3⟩
    have B3 : Hid (Below w.heap.size w w3) := hb3
    clear hb3
    go_wp2_with fail
    go_ret
    exact ⟨retS HV.out.symm, B3.out⟩
  · have HV : Hid (propOf p = p) := by show _ = _; unfold propOf; rw [Hz.out]; rfl
    go_enter Tryz.func38, Tryz.ntmps38
    go_wp2_with fail
    refine HC.out.mono ?_
    rintro e wq ⟨rfl, hwq⟩
    rw [hwq]
    go_wp2_with fail
    go_ret
    exact ⟨retS HV.out.symm, Below.refl _ _⟩
end
section
attribute [local go_sem] fld_tok fld_ins fld_kind fld_word
theorem last_at {α : Type} {l : List α} (h : 0 < l.length) : l.getLast? = some (l[l.length - 1]'(by omega)) := by
  rw [List.getLast?_eq_getElem?, List.getElem?_eq_getElem (by omega)]
theorem dropLast_take {α : Type} (l : List α) : l.dropLast = l.take (l.length - 1) := List.dropLast_eq_take
theorem cutImp_no {v : List Nd} (h : 0 < v.length) (hw : wordN (v[v.length - 1]'(by omega)) nImportant = false) : cutImp v = (v, false) := by
  unfold cutImp
  rw [last_at h]
  simp only
  rw [if_neg (by rw [hw]; simp)]
theorem cutImp_bare {v : List Nd} (h : 0 < v.length) (hw : wordN (v[v.length - 1]'(by omega)) nImportant = true) (hb : bare (v.take (v.length - 1)) = []) : cutImp v = (v, false) := by
  unfold cutImp
  rw [last_at h]
  simp only
  rw [if_pos hw, dropLast_take, hb]
  rfl
theorem cutImp_sign {v b : List Nd} (h : 0 < v.length) (hw : wordN (v[v.length - 1]'(by omega)) nImportant = true) (hb : bare (v.take (v.length - 1)) = b) (h2 : 0 < b.length) : cutImp v = if sgnN (b[b.length - 1]'(by omega)) (b1 33) = true then (bare (b.take (b.length - 1)), true) else (v, false) := by
  unfold cutImp
  rw [last_at h]
  simp only
  rw [if_pos hw, dropLast_take, hb, last_at h2, dropLast_take]
theorem cutImportant_c (B : Nat) (l : List Nd) (v : Value) (w : World) (h : Sl (fun b => b < B) w v l) (hB : B ≤ w.heap.size) :
    Calls Tryz.prog 226 #[v] w fun e w' => ∃ v', e = .returned (.tuple #[v', .bool (cutImp l).2]) ∧ Sl (fun b => b < B) w' v' (cutImp l).1 ∧ Below w.heap.size w w' := by
  have hl6 := h.len
  have HS : Hid (Sl (fun b => b < B) w v l) := h
  obtain ⟨a, cap, rfl⟩ := h.form
  clear h
  by_cases hz : l.length = 0
  · obtain rfl : l = [] := List.eq_nil_of_length_eq_zero hz
    clear hz
    go_enter Tryz.func226, Tryz.ntmps226
    go_wp2_with fail
    go_ret2
    exact ⟨_, rfl, HS.out, Below.refl _ _⟩
  · have hp : 0 < l.length := by omega
    obtain ⟨g, o, rfl, hL, hcap⟩ := HS.out.here (by rintro rfl; simp at hp)
    obtain ⟨kv, hN⟩ := hL.node (i := l.length - 1) (by omega)
    obtain ⟨n, hn⟩ : ∃ n, n = l[l.length - 1]'(by omega) := ⟨_, rfl⟩
    rw [← hn] at hN
    have HN : Hid (wordN (l[l.length - 1]'(by omega)) nImportant = wordN (.mk n.t []) nImportant) := by show _ = _; rw [← hn]; rfl
    obtain ⟨ka, kc, rfl⟩ := hN.k.form
    have d0 := hN.c0
    have d1 := hN.c1
    have d2 := hN.c2
    have d3 := hN.c3
    have hwd := hN.ok.word
    clear hN hL hn
    obtain ⟨m, Hm⟩ : ∃ m, Hid (l.length - 1 = m) := ⟨_, hid rfl⟩
    have hm : (l.length : Int) - 1 = (m : Int) := by have := Hm.out; omega
    have hwm : IntKind.i64.wrap ((l.length : Int) - 1) = (m : Int) := by rw [IntKind.wrap_i64]; omega
    have hml : (m : Int) < (l.length : Int) := by omega
    have hmn : m < l.length := by omega
    rw [Hm.out] at d0 d1 d2 d3
    obtain ⟨z, Hz⟩ : ∃ z, Hid (wordN (.mk n.t []) nImportant = z) := ⟨_, hid rfl⟩
    have HW := IsWord_c n.t (.slice ka n.kids.length kc) nImportant w hwd
    rw [Hz.out] at HW
    have HW' : Hid (Calls Tryz.prog 161 #[nodV n.t (.slice ka n.kids.length kc), .string nImportant] w fun e w' => e = .returned (.bool z) ∧ Below w.heap.size w w') := HW
    clear HW
    have hm0 : (0 : Int) ≤ (m : Int) := by omega
    go_enter Tryz.func226, Tryz.ntmps226
    go_wp2_with fail
    refine HW'.out.mono ?_
    rintro e w1 ⟨rfl, hb1⟩
    have B1 : Hid (Below w.heap.size w w1) := hb1
    have hs1 := hb1.size
    clear hb1 HW' d0 d1 d2 d3
    cases z
    · have HV : Hid (cutImp l = (l, false)) := cutImp_no hp (by rw [HN.out]; exact Hz.out)
      go_wp2_with fail
      go_ret2
      exact ⟨_, by rw [HV.out]; rfl, by rw [HV.out]; exact HS.out.below B1.out hB, B1.out⟩
    · have S1 := HS.out.below B1.out hB
      obtain ⟨hr1, hS1⟩ := S1.cutu m (by omega)
      have HST : Hid (Sl (fun b => b < B) w1 (.slice (some ⟨g, o, none⟩) m cap) (l.take m)) := hS1
      clear hS1 S1
      have hlt : (l.take m).length = m := by rw [List.length_take]; omega
      go_wp2_with fail
      refine (Trim_c B (l.take m) _ w1 HST.out).mono ?_
      obtain ⟨b, Hb⟩ : ∃ b, Hid (bare (l.take m) = b) := ⟨_, hid rfl⟩
      rw [Hb.out]
      rintro e w2 ⟨v2, rfl, hS2, hw2⟩
      subst hw2
      have HS2 : Hid (Sl (fun b => b < B) w2 v2 b) := hS2
      have hl2 := hS2.len
      obtain ⟨a2, c2, rfl⟩ := hS2.form
      clear hS2 hr1 hlt
      by_cases hz2 : b.length = 0
      · have HV : Hid (cutImp l = (l, false)) := cutImp_bare hp (by rw [HN.out]; exact Hz.out) (by rw [Hm.out, Hb.out]; exact List.eq_nil_of_length_eq_zero hz2)
        have hq : (b.length : Int) = 0 := by omega
        have hqw : IntKind.i64.wrap ((b.length : Int) - 1) = -1 := by rw [IntKind.wrap_i64]; omega
        clear hz2
        go_wp2_with fail
        go_ret2
        exact ⟨_, by rw [HV.out]; rfl, by rw [HV.out]; exact HS.out.below B1.out hB, B1.out⟩
      · have hp2 : 0 < b.length := by omega
        obtain ⟨g2, o2, rfl, hL2, hcap2⟩ := HS2.out.here (by rintro rfl; simp at hp2)
        obtain ⟨kv2, hN2⟩ := hL2.node (i := b.length - 1) (by omega)
        obtain ⟨n2, hn2⟩ : ∃ n, n = b[b.length - 1]'(by omega) := ⟨_, rfl⟩
        rw [← hn2] at hN2
        have HN2 : Hid (sgnN (b[b.length - 1]'(by omega)) (b1 33) = signT n2.t (b1 33)) := by show _ = _; rw [← hn2]; rfl
        have HV0 : Hid (cutImp l = if sgnN (b[b.length - 1]'(by omega)) (b1 33) = true then (bare (b.take (b.length - 1)), true) else (l, false)) := cutImp_sign hp (by rw [HN.out]; exact Hz.out) (by rw [Hm.out]; exact Hb.out) hp2
        obtain ⟨ka2, kc2, rfl⟩ := hN2.k.form
        have d0 := hN2.c0
        have d1 := hN2.c1
        have d2 := hN2.c2
        have d3 := hN2.c3
        clear hN2 hL2 hn2
        obtain ⟨m2, Hm2⟩ : ∃ m, Hid (b.length - 1 = m) := ⟨_, hid rfl⟩
        have hm2 : (b.length : Int) - 1 = (m2 : Int) := by have := Hm2.out; omega
        have hwm2 : IntKind.i64.wrap ((b.length : Int) - 1) = (m2 : Int) := by rw [IntKind.wrap_i64]; omega
        have hml2 : (m2 : Int) < (b.length : Int) := by omega
        have hmn2 : m2 < b.length := by omega
        have hm02 : (0 : Int) ≤ (m2 : Int) := by omega
        rw [Hm2.out] at d0 d1 d2 d3
        obtain ⟨z2, Hz2⟩ : ∃ z, Hid (signT n2.t (b1 33) = z) := ⟨_, hid rfl⟩
        go_wp2_with fail
        refine (IsSign_c n2.t (.slice ka2 n2.kids.length kc2) (b1 33) _).mono ?_
        rw [Hz2.out]
        rintro e w3 ⟨rfl, hb3⟩
        have B3 : Hid (Below w.heap.size w w3) := B1.out.trans (hb3.mono hs1)
        have HS3 : Hid (Sl (fun b => b < B) w3 (.slice (some ⟨g2, o2, none⟩) b.length c2) b) := HS2.out.below hb3 (by omega)
        have hs3 := B3.out.size
        clear hb3 d0 d1 d2 d3
        cases z2
        · have HV : Hid (cutImp l = (l, false)) := by show _ = _; rw [HV0.out, HN2.out, Hz2.out]; rfl
          go_wp2_with fail
          go_ret2
          exact ⟨_, by rw [HV.out]; rfl, by rw [HV.out]; exact HS.out.below B3.out hB, B3.out⟩
        · have HV : Hid (cutImp l = (bare (b.take m2), true)) := by show _ = _; rw [HV0.out, HN2.out, Hz2.out, Hm2.out]; rfl
          obtain ⟨hr3, hS3⟩ := HS3.out.cutu m2 (by omega)
          have HST3 : Hid (Sl (fun b => b < B) w3 (.slice (some ⟨g2, o2, none⟩) m2 c2) (b.take m2)) := hS3
          clear hS3
          go_wp2_with fail
          refine (Trim_c B (b.take m2) _ w3 HST3.out).mono ?_
          rintro e w4 ⟨v4, rfl, hS4, hw4⟩
          subst hw4
          have HS4 : Hid (Sl (fun b => b < B) w4 v4 (bare (b.take m2))) := hS4
          clear hS4
          go_wp2_with fail
          go_ret2
          exact ⟨_, by rw [HV.out]; rfl, by rw [HV.out]; exact HS4.out, B3.out⟩
end
end Go.Proofs.YtlliliddljkbfaaGreat
