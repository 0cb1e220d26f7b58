import Derived.Test.YtlliliddljkbfaaGreatC51
import Derived.Test.YtlliliddljkbfaaGreatC53
namespace Go.Proofs.YtlliliddljkbfaaGreat
set_option maxHeartbeats 64000000
set_option maxRecDepth 100000
open Go.RowKit Sp
theorem polP_all : ∀ (i : Fin 3) (j k : Fin 6) (x y : Bool), polP ⟨rootO i.val, prO.take (1 + j.val), fnO.take k.val, atO.take i.val, x, y⟩ = true := by decide +kernel
theorem polO_ok (a b c : Int) : polP (polO a b c) = true := polP_all ⟨pickF a 3, pickF_lt a (by omega)⟩ ⟨pickF b 6, pickF_lt b (by omega)⟩ ⟨pickF c 6, pickF_lt c (by omega)⟩ _ _
theorem polO_root (a b c : Int) : (polO a b c).root.size ≤ 12 := by
  have : ∀ i : Fin 3, (rootO i.val).size ≤ 12 := by decide
  exact this ⟨pickF a 3, pickF_lt a (by omega)⟩
theorem rinse_err [DecI] {s : ByteArray} {p : Policy} (hp : polP p = true) (hs : s.size ≤ 600) : (rinseA s p).2 = 0 ∨ ((rinseA s p).2 = 2 ∧ (rinseA s p).1 = nob) := by
  unfold rinseA
  rw [if_neg (by simp [hp]), if_neg (by omega)]
  split
  · exact .inr ⟨rfl, rfl⟩
  · exact .inl rfl
theorem rinse_size [DecI] {s : ByteArray} {p : Policy} (hr : p.root.size ≤ 12) : (rinseA s p).1.size ≤ 1200000000 := by
  unfold rinseA
  split
  · show 0 ≤ _; omega
  · split
    · show 0 ≤ _; omega
    · rename_i hs
      split
      · show 0 ≤ _; omega
      · have h := sheet_g (s := s) (by omega)
        have := rinF_size decSzI p hr (depth (sheetN s)) true (sheetN s) h.1
        show (rinF p (depth (sheetN s)) true (sheetN s)).size ≤ _
        omega
theorem gtF_at : ∀ (l : List UInt8) (q : UInt8) (i : Nat), gtF q l → l[i + 1]? = some 62 → l[i]? = some 32
  | [], _, _, _, h => by simp at h
  | [c], _, i, _, h => by simp at h
  | c :: d :: r, q, 0, hg, h => by
    simp at h
    subst h
    rw [hg.2.1 rfl]; rfl
  | c :: d :: r, q, i + 1, hg, h => by
    have := gtF_at (d :: r) c i hg.2 (by simpa using h)
    simpa using this
theorem ext_at {s t : ByteArray} {i : Nat} (_h : i + t.size ≤ s.size) (e : s.extract i (i + t.size) = t) (j : Nat) (hj : j < t.size) : s.data.toList[i + j]? = t.data.toList[j]? := by
  have h1 := congrArg (fun x => x.data.toList[j]?) e
  rw [← h1]
  show _ = (s.extract i (i + t.size)).data.toList[j]?
  rw [ByteArray.data_extract, Array.toList_extract, List.extract_eq_take_drop, List.getElem?_take, if_pos (by omega), List.getElem?_drop]
theorem not60 {o : ByteArray} (h : Sane o.data.toList) {t : ByteArray} (ht : t.data.toList[0]? = some 60) (h0 : 0 < t.size) : notIn o t := by
  intro i hi e
  have := ext_at hi e 0 h0
  rw [ht] at this
  have hm := List.mem_of_getElem? this
  exact absurd rfl (h.1 _ hm).2.2
theorem not62 {o : ByteArray} (h : Sane o.data.toList) {t : ByteArray} {x : UInt8} (h3 : t.size = 3) (h1 : t.data.toList[1]? = some x) (hx : x ≠ 32) (h2 : t.data.toList[2]? = some 62) : notIn o t := by
  intro i hi e
  have e1 := ext_at hi e 1 (by omega)
  have e2 := ext_at hi e 2 (by omega)
  rw [h1] at e1
  rw [h2] at e2
  have := gtF_at _ 0 (i + 1) h.2 e2
  rw [e1] at this
  exact hx (Option.some.inj this)
theorem Safe_c [DecI] (s : ByteArray) (a b c : Int) (w : World) (hs : s.size ≤ 9223372036854775807) (ha : -9223372036854775808 ≤ a ∧ a ≤ 9223372036854775807) (hb : -9223372036854775808 ≤ b ∧ b ≤ 9223372036854775807) (hc : -9223372036854775808 ≤ c ∧ c ≤ 9223372036854775807) (hI : ItoaOK w) (hl : Lit w) :
    Calls Tryz.prog 6 #[.string s, .int .i64 a, .int .i64 b, .int .i64 c] w fun e w' => e = .returned (.bool true) ∧ Below w.heap.size w w' := by
  have HI := hid hI
  have HL := hid hl
  clear hI hl
  go_enter Tryz.func6, Tryz.ntmps6
  go_wp2_with fail
  refine (policy_c a b c w ha hb hc).mono ?_
  rintro e w1 ⟨pv, fv, av, rfl, hP, hb1⟩
  have hpok := polO_ok a b c
  have hprt := polO_root a b c
  obtain ⟨p, Hp⟩ : ∃ p, Hid (polO a b c = p) := ⟨_, hid rfl⟩
  rw [Hp.out] at hP hpok hprt
  rw [Hp.out]
  obtain ⟨pa, pc, rfl⟩ := hP.props.form
  obtain ⟨fa, fc, rfl⟩ := hP.funs.form
  obtain ⟨aa, ac, rfl⟩ := hP.ats.form
  have P1 := hid hP
  have B1 : Hid (Below w.heap.size w w1) := hb1
  have HPO := hid hpok
  clear hP hb1 hpok
  unfold polV
  go_upto_region 2 with fail
  generalize hw2 : World.alloc _ _ = w2
  obtain ⟨q2, hb2⟩ := one_of hw2
  obtain ⟨n, Hn⟩ : ∃ x, Hid (w1.heap.size = x) := ⟨_, hid rfl⟩
  rw [Hn.out] at q2
  rw [Hn.out]
  have Q2 : Hid (w2.heap[n]? = _) := q2
  have B2 : Hid (Below w.heap.size w w2) := B1.out.trans (hb2.mono B1.out.size)
  have P2 : Hid (PolM w1.heap.size w2 p (.slice pa p.props.length pc) (.slice fa p.funs.length fc) (.slice aa p.ats.length ac)) := P1.out.below hb2 P1.out.lt
  clear hw2 q2 hb2 B1 P1
  go_wp2_with fail
  refine (awake_c w2 (HI.out.below B2.out (Nat.le_refl _)) (HL.out.below B2.out)).mono ?_
  rintro e w3 ⟨rfl, hb3⟩
  have Q3 : Hid (w3.heap[n]? = _) := (hb3.block n (Array.getElem?_eq_some_iff.1 Q2.out).1).trans Q2.out
  have B3 : Hid (Below w.heap.size w w3) := B2.out.trans (hb3.mono B2.out.size)
  have P3 : Hid (PolM w1.heap.size w3 p (.slice pa p.props.length pc) (.slice fa p.funs.length fc) (.slice aa p.ats.length ac)) := P2.out.below hb3 P2.out.lt
  clear hb3 Q2 B2 P2
  go_wp2_with fail
  refine wp_region_any (by kernel_rfl) ?_
  change wpAny _ _ _ _ _ _ _ (World.drew _)
  obtain ⟨wz, hwz⟩ : ∃ x, World.drew w3 = x := ⟨_, rfl⟩
  have hz : Below w3.heap.size w3 wz := by rw [← hwz]; exact (Below.refl _ _).drew
  rw [hwz]
  have QZ : Hid (wz.heap[n]? = some (.cells #[.string p.root, .slice pa p.props.length pc, .slice fa p.funs.length fc, .slice aa p.ats.length ac, .bool p.cust, .bool p.texts] 41 (0, 0))) := (hz.block n (Array.getElem?_eq_some_iff.1 Q3.out).1).trans Q3.out
  have BZ : Hid (Below w.heap.size w wz) := B3.out.trans (hz.mono B3.out.size)
  have PZ : Hid (PolM w1.heap.size wz p (.slice pa p.props.length pc) (.slice fa p.funs.length fc) (.slice aa p.ats.length ac)) := P3.out.below hz P3.out.lt
  clear hz hwz Q3 B3 P3
  obtain ⟨o, Ho⟩ : ∃ o, Hid ((rinseA (cut600 s) p).1 = o) := ⟨_, hid rfl⟩
  obtain ⟨er, Her⟩ : ∃ e, Hid ((rinseA (cut600 s) p).2 = e) := ⟨_, hid rfl⟩
  have HER : Hid (er = 0 ∨ (er = 2 ∧ o = nob)) := by have := rinse_err (s := cut600 s) HPO.out (cut600_size s); rw [Ho.out, Her.out] at this; exact this
  have hos : o.size ≤ 1200000000 := by have := rinse_size (s := cut600 s) hprt; rw [Ho.out] at this; exact this
  have HSQ : Hid (Sane o.data.toList ∧ Sp.clean o = o ∧ quietF p 0 (toks (Sp.clean o)) = true) := by have := rinse_quiet (cut600 s) p; rw [Ho.out] at this; exact this
  refine wpAny_of_held (S := fun wx => wx.heap[n]? = some (.cells #[.string p.root, .slice pa p.props.length pc, .slice fa p.funs.length fc, .slice aa p.ats.length ac, .bool p.cust, .bool p.texts] 41 (0, 0))) _ _ _ _ ?_
  refine tkH 0 rfl QZ.out (by intro w hSw; (have z0 := (cells_at hSw 0).trans rfl; have z1 := (cells_at hSw 1).trans rfl; have z2 := (cells_at hSw 2).trans rfl; have z3 := (cells_at hSw 3).trans rfl; have z4 := (cells_at hSw 4).trans rfl; have z5 := (cells_at hSw 5).trans rfl); go_simp; all_goals with_reducible rfl) ?_
  refine tkH 2 rfl QZ.out (by intro w hSw; (have z0 := (cells_at hSw 0).trans rfl; have z1 := (cells_at hSw 1).trans rfl; have z2 := (cells_at hSw 2).trans rfl; have z3 := (cells_at hSw 3).trans rfl; have z4 := (cells_at hSw 4).trans rfl; have z5 := (cells_at hSw 5).trans rfl); go_simp; all_goals with_reducible rfl) ?_
  refine brH 1 fun K hK => ?_
  go_simp
  refine (short_c s wz hs).mono ?_
  rintro e wq ⟨rfl, hwq⟩
  rw [hwq]
  clear hwq
  refine hK.out _ _ QZ.out (fun _ => ?_)
  clear hK K
  refine brH 3 fun K hK => ?_
  go_simp
  refine (Rinse_c w1.heap.size (cut600 s) p _ _ _ wz PZ.out (HI.out.below BZ.out (Nat.le_refl _)) decSzI (HL.out.below BZ.out) (by omega) (by have := cut600_size s; omega)).mono ?_
  rw [Ho.out, Her.out]
  rintro e w5 ⟨rfl, hb5⟩
  have Q5 : Hid (w5.heap[n]? = some (.cells #[.string p.root, .slice pa p.props.length pc, .slice fa p.funs.length fc, .slice aa p.ats.length ac, .bool p.cust, .bool p.texts] 41 (0, 0))) := (hb5.block n (Array.getElem?_eq_some_iff.1 QZ.out).1).trans QZ.out
  have B5 : Hid (Below w.heap.size w w5) := BZ.out.trans (hb5.mono BZ.out.size)
  have P5 : Hid (PolM w1.heap.size w5 p (.slice pa p.props.length pc) (.slice fa p.funs.length fc) (.slice aa p.ats.length ac)) := PZ.out.below hb5 PZ.out.lt
  clear hb5 QZ BZ PZ
  refine hK.out _ _ Q5.out (fun _ => ?_)
  clear hK K
  refine brH 4 fun K hK => ?_
  go_simp
  refine hK.out _ _ (Q5.out) (fun _ => ?_); clear hK K
  refine tkH 5 rfl Q5.out (by intro w hSw; skip; go_simp; all_goals with_reducible rfl) ?_
  refine tkH 6 rfl Q5.out (by intro w hSw; skip; go_simp; all_goals with_reducible rfl) ?_
  refine brH 7 fun K hK => ?_
  go_simp
  refine hK.out _ _ (Q5.out) (fun _ => ?_); clear hK K
  refine brH 8 fun K hK => ?_
  go_simp
  refine hK.out _ _ (Q5.out) (fun _ => ?_); clear hK K
  refine wpAnyH_done (by kernel_rfl) ?_ _
  have z0 := (cells_at Q5.out 0).trans rfl
  have z1 := (cells_at Q5.out 1).trans rfl
  have z2 := (cells_at Q5.out 2).trans rfl
  have z3 := (cells_at Q5.out 3).trans rfl
  have z4 := (cells_at Q5.out 4).trans rfl
  have z5 := (cells_at Q5.out 5).trans rfl
  rcases HER.out with h0 | ⟨h0, h1⟩
  all_goals
    try (have heq : (o.toList == []) = true := by rw [bytes_lit]; exact decide_eq_true h1)
    try clear h1
    subst h0
    go_wp2_with fail
    go_loopg [13] o.size (fun gg v13 wr => ∃ k : Nat, k + gg = o.size ∧ v13 = .int .i64 (k : Int) ∧ Aside (wr = w5))
    case atStart => exact ⟨0, by omega, rfl, rfl⟩
    case round =>
      obtain ⟨k, hk, rfl, hA⟩ := hrel
      obtain rfl := hA.out
      clear hA
      by_cases hlt : k < o.size
      · have hlt' : (k : Int) < (o.size : Int) := by omega
        have hbd := HSQ.out.1.1 (o.data.toList[k]'hlt) (List.getElem_mem hlt)
        have hob : o[k] = o.data.toList[k]'hlt := by rw [Array.getElem_toList]; rfl
        rw [← hob] at hbd
        have hix := index_pk o k hlt
        rw [pk_bt hlt, bt_in hlt] at hix
        have h32 : (32 : Int) ≤ (o[k].toNat : Int) := by omega
        have h126 : (o[k].toNat : Int) ≤ 126 := by omega
        clear hbd hob
        generalize (o[k].toNat : Int) = x at *
        go_wp2_with fail
        go_roundg (gk - 1)
        case measure => omega
        case rel => exact ⟨k + 1, by omega, by congr 1, rfl⟩
      · have hlt' : (o.size : Int) ≤ (k : Int) := by omega
        go_wp2_with fail
        refine (hasT_c o ⟨#[60, 47]⟩ wr (by omega) (by decide) (not60 HSQ.out.1 rfl (by decide))).mono ?_
        rintro e wq ⟨rfl, hwq⟩
        rw [hwq]
        clear hwq
        go_wp2_with fail
        refine (hasT_c o ⟨#[60, 33, 45, 45]⟩ wr (by omega) (by decide) (not60 HSQ.out.1 rfl (by decide))).mono ?_
        rintro e wq ⟨rfl, hwq⟩
        rw [hwq]
        clear hwq
        go_wp2_with fail
        refine (hasT_c o ⟨#[45, 45, 62]⟩ wr (by omega) (by decide) (not62 HSQ.out.1 (x := 45) rfl rfl (by decide) rfl)).mono ?_
        rintro e wq ⟨rfl, hwq⟩
        rw [hwq]
        clear hwq
        go_wp2_with fail
        refine (hasT_c o ⟨#[93, 93, 62]⟩ wr (by omega) (by decide) (not62 HSQ.out.1 (x := 93) rfl rfl (by decide) rfl)).mono ?_
        rintro e wq ⟨rfl, hwq⟩
        rw [hwq]
        clear hwq
        by_cases h6 : o.size ≤ 600
        · have h6' : (o.size : Int) ≤ 600 := by omega
          go_wp2_with fail
          refine (quiet_c p _ _ _ w1.heap.size o wr P5.out (HL.out.below B5.out) h6 HSQ.out.2.2).mono ?_
          rintro e w6 ⟨rfl, hb6⟩
          have B6 : Hid (Below w.heap.size w w6) := B5.out.trans (hb6.mono B5.out.size)
          clear hb6
          go_wp2_with fail
          go_ret
          exact ⟨rfl, B6.out⟩
        · have h6' : (600 : Int) < (o.size : Int) := by omega
          go_wp2_with fail
          go_ret
          exact ⟨rfl, B5.out⟩
end Go.Proofs.YtlliliddljkbfaaGreat
