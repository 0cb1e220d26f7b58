import Derived.Test.YtlliliddljkbfaaGreatC30
namespace Go.Proofs.YtlliliddljkbfaaGreat
set_option maxHeartbeats 64000000
set_option maxRecDepth 100000
open Go.RowKit Go.Conc Sp
theorem Tokens_short (sheet : ByteArray) (w : World) (hs : sheet.size ≤ 600) (hg : ∃ m, w.cell? ⟨0, 0, none⟩ = some (.int .i64 m)) (h0 : 0 < w.heap.size) :
    Calls Tryz.prog 42 #[.string sheet] w fun e w' => ∃ v, e = .returned (.tuple #[v, .int .i64 0]) ∧ w'.ownsRow w.heap.size 93 3 v (toks (Sp.clean sheet)).length (tokCells (toks (Sp.clean sheet))) ∧ Below w.heap.size w w' := by
  have htl : (toks (Sp.clean sheet)).length ≤ 600 := by
    have := toks_len (Sp.clean sheet); have := clean_size sheet; omega
  obtain ⟨all, HA⟩ : ∃ all, Hid (toks (Sp.clean sheet) = all) := ⟨_, rfl⟩
  rw [HA.out] at htl ⊢
  have h6 : (sheet.size : Int) ≤ 600 := by omega
  have HG : Hid (∃ m, w.cell? ⟨0, 0, none⟩ = some (.int .i64 m)) := hg
  clear hg
  obtain ⟨iT, hiT⟩ := info_tok
  have HI : Hid (Tryz.prog.info? 93 = some iT ∧ iT.zero = some (.agg #[.int .i64 0, .string ⟨#[]⟩, .string ⟨#[]⟩]) ∧ iT.size = 3 ∧ iT.bytes = 40) := hiT
  clear hiT
  refine calls_of_nwp Tryz.func42 rfl ?_
  simp only [Tryz.ntmps42, List.size_toArray, List.length_cons, List.length_nil, Nat.reduceAdd, Nat.reduceSub, Array.replicate_succ,
     Array.replicate_zero, List.push_toArray, List.append_toArray, List.nil_append, List.cons_append]
  refine nwp_seq (nwp_of_wp ?_)
  go_wp2_with fail
  refine nwp_seq (nwp_of_wp ?_)
  go_wp2_with fail
  refine nwp_seq (nwp_of_wp ?_)
  go_wp2_with fail
  refine nwp_seq ?_
  refine nwp_seq (nwp_of_wp ?_)
  go_wp2_with fail
  refine (scanTokens_c sheet w hs HG.out h0).mono ?_
  rintro e w1 ⟨c, cap, n, rfl, hcw, hch, hb⟩
  have HC : Hid (w1.heap[c]? = some (.chan cap (all.map tokV).toArray true n 0 false)) := by have := hch; rw [HA.out] at this; exact this
  have HB : Hid (Below w.heap.size w w1) := hb
  have hclt : c < w1.heap.size := (Array.getElem?_eq_some_iff.1 hch).1
  have hw1 := hb.size
  clear hch hb
  go_wp2_with fail
  refine nwp_block ?_
  refine nwp_loop (fun m a wr => ∃ (ts rest : List Tok) (v : Value) (r : Nat) (u5 u8 u11 u12 u13 u14 u15 u16 u17 : Value), a = ⟨#[.string sheet, undef, .slice none 0 0, .int .i64 0, v, u5, .string sheet, .int .i64 (sheet.size : Int), u8, .string sheet, .chan (some c), u11, u12, u13, u14, u15, u16, u17, undef], []⟩ ∧ rest.length = m ∧ ts ++ rest = all ∧ wr.ownsRow w1.heap.size 93 3 v ts.length (tokCells ts) ∧ wr.heap[c]? = some (.chan cap (rest.map tokV).toArray true n r false) ∧ Below w.heap.size w wr ∧ w1.heap.size ≤ wr.heap.size) all.length
    ⟨[], all, _, 0, _, _, _, _, _, _, _, _, _, rfl, rfl, rfl, World.ownsRow_nil _ _ _ _, HC.out, HB.out, Nat.le_refl _⟩ ?_
  rintro gk _ wr ⟨ts, rest, v, r, u5, u8, u11, u12, u13, u14, u15, u16, u17, rfl, hlen, hall, hown, hch, hbl, hsz⟩
  have H1 : Hid (rest.length = gk ∧ ts ++ rest = all) := ⟨hlen, hall⟩
  have HO : Hid (wr.ownsRow w1.heap.size 93 3 v ts.length (tokCells ts)) := hown
  have HC2 : Hid (wr.heap[c]? = some (.chan cap (rest.map tokV).toArray true n r false)) := hch
  have HB2 : Hid (Below w.heap.size w wr) := hbl
  have hls : ts.length + rest.length ≤ 600 := by have := congrArg List.length hall; simp at this; omega
  clear hlen hall hown hch hbl HC HB
  refine nwp_seq ?_
  refine nwp_region ?_
  show Left _ _ _ [0, 1] _ _
  cases rest with
  | nil =>
    refine left_recv_shut (c := c) (cap := cap) (s := n) (r := r) (z := .agg #[.int .i64 0, .string ⟨#[]⟩, .string ⟨#[]⟩]) (tm := false) (w1 := wr) rfl rfl (by simp [go_sem, rcase]) HC2.out ?_
    refine left_value (v := .bool false) (w' := wr) rfl rfl (by simp [go_sem]) ?_
    refine left_nil ?_
    refine nwp_of_wp ?_
    go_wp2_with fail
    refine nwp_of_wp ?_
    simp only [Act.put, List.setIfInBounds_toArray]
    go_wp2_with fail
    go_ret2
    have hts : ts = all := by simpa using H1.out.2
    rw [← hts]
    obtain ⟨h1, h2⟩ := HO.out
    refine ⟨v, rfl, ⟨h1, ?_⟩, HB2.out⟩
    rcases h2 with h2 | ⟨g, cap', cur, hv, hbg, rest⟩
    · exact .inl h2
    · exact .inr ⟨g, cap', cur, hv, by omega, rest⟩
  | cons t rest =>
    refine left_recv (c := c) (cap := cap) (s := n) (r := r) (closed := true) (buf := ((t :: rest).map tokV).toArray) (z := .agg #[.int .i64 0, .string ⟨#[]⟩, .string ⟨#[]⟩]) (tm := false) (w1 := wr) rfl rfl (by simp [go_sem, rcase]) HC2.out (by simp) ?_
    have e1 : ((t :: rest).map tokV).toArray.getD 0 undef = .agg #[.int .i64 t.kind, .string t.word, .string t.unit] := rfl
    have e2 : ((t :: rest).map tokV).toArray.extract 1 ((t :: rest).map tokV).toArray.size = (rest.map tokV).toArray := by
      apply Array.ext'; simp; exact List.take_of_length_le (by simp)
    rw [e1, e2]
    have hcr : c < wr.heap.size := by omega
    have HC3 : Hid ((wr.setChan c cap (rest.map tokV).toArray true n (r + 1) false).heap[c]? = some (.chan cap (rest.map tokV).toArray true n (r + 1) false)) := heap_setChan _ _ _ _ _ _ _ _ hcr
    have HO3 : Hid ((wr.setChan c cap (rest.map tokV).toArray true n (r + 1) false).ownsRow w1.heap.size 93 3 v ts.length (tokCells ts)) := ownsRow_setChan HO.out hclt _ _ _ _ _ _
    have HB3 : Hid (Below w.heap.size w (wr.setChan c cap (rest.map tokV).toArray true n (r + 1) false)) := below_setChan HB2.out hcw _ _ _ _ _ _
    have hsx : (wr.setChan c cap (rest.map tokV).toArray true n (r + 1) false).heap.size = wr.heap.size := size_setChan _ _ _ _ _ _ _ _
    generalize wr.setChan c cap (rest.map tokV).toArray true n (r + 1) false = wx at *
    have hsz2 : w1.heap.size ≤ wx.heap.size := by omega
    have hcx : c < wx.heap.size := by omega
    clear hsx hcr e1 e2 HC2 HO HB2
    refine left_value (v := .bool true) (w' := wx) rfl rfl (by simp [go_sem]) ?_
    refine left_nil ?_
    refine nwp_of_wp ?_
    simp only [List.length_cons] at hls
    go_wp2_with (at_builtin; refine wpList_append_own _ rfl _ _ 89 rfl w1.heap.size 93 iT (.agg #[.int .i64 0, .string ⟨#[]⟩, .string ⟨#[]⟩]) 3 40 Tryz.underlying89 HI.out.1 HI.out.2.1 HI.out.2.2.1 HI.out.2.2.2 rfl (by omega) v ts.length (tokCells ts) rfl ((HO3.out.alloc _).alloc _) ⟨wx.heap.size + 1, 0, none⟩ 1 1 [.int .i64 t.kind, .string t.word, .string t.unit] rfl rfl ?_ (tok_oneCell _) ?_ ?_ ?_ ?_)
    · intro j u hu
      have e : (wx.alloc (.cells #[.int .i64 t.kind, .string t.word, .string t.unit] 93)).heap.size = wx.heap.size + 1 := by simp
      rw [Addr.add_lit, Nat.zero_add, ← e, World.cell?_alloc_mark, ← hu]
      simp
    · unfold maxLen; omega
    · omega
    · simp; omega
    intro v4 w2 hown2 hgr2 _
    have HO4 : Hid (w2.ownsRow w1.heap.size 93 3 v4 (ts.length + 1) (tokCells ts ++ [.int .i64 t.kind, .string t.word, .string t.unit])) := hown2
    have hrow : ∀ rr, v.ownBlock = some rr → w1.heap.size ≤ rr := fun rr hr => (HO3.out.lt rr hr).1
    have HC4 : Hid (w2.heap[c]? = some (.chan cap (rest.map tokV).toArray true n (r + 1) false)) := by
      show _ = _
      rw [hgr2.block c (by simp; omega) (fun e => by have := hrow c e.symm; omega), Below.heap_alloc _ _ _ (by simp; omega), Below.heap_alloc _ _ _ hcx]
      exact HC3.out
    have HB4 : Hid (Below w.heap.size w w2) := by
      have hx := HB3.out.size
      exact ((HB3.out.alloc hx _).alloc (by simp; omega) _).grown hgr2 (by simp; omega) (fun rr hr => by have := hrow rr hr; omega)
    have hs4 : w1.heap.size ≤ w2.heap.size := by have := hgr2.size; simp at this; omega
    clear hown2 hgr2
    go_wp2_with fail
    obtain ⟨h1, h2⟩ := H1.out
    simp only [List.length_cons] at h1
    exact ⟨rest.length, by omega, ts ++ [t], rest, v4, r + 1, _, _, _, _, _, _, _, _, _, rfl, rfl, by simpa using h2, by rw [tokCells_append, List.length_append]; exact HO4.out, HC4.out, HB4.out, hs4⟩
end Go.Proofs.YtlliliddljkbfaaGreat
