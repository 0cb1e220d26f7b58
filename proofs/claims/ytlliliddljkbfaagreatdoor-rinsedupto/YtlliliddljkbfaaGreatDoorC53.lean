/-
 Proved: for every list of texts and list of policies that reach at most 1048576 values and letters in all, rinselaw.Rinsed hands back true and both lists read behind the call as they did before: Rinse answers as the document's own answer does.
 Conditions: that bound on the size of what comes in, and that the library's three tables of numbers hold what the program's text lays in them (tied to that text by the card); of internal/bytealg.MaxLen it speaks for every value.
-/
import Derived.Test.YtlliliddljkbfaaGreatDoorC7
import Derived.Test.YtlliliddljkbfaaGreatDoorC52
import Derived.Test.YtlliliddljkbfaaGreatDoorCards
import Derived.Test.YtlliliddljkbfaaGreatDoorTie
import Derived.Shelf.Vars
import Derived.WalkKit
import Derived.ProofKit
import Derived.OpenShut
import Derived.Carry
import Derived.MakeChecks
import Derived.Deep.DeepHandedRow
import Derived.Lib.LaidTab
namespace Go.Proofs.YtlliliddljkbfaaGreatDoor.Gx
set_option maxHeartbeats 64000000
set_option maxRecDepth 100000
open Go.ChangeShapes Go.WideShapes Go.ChangeAt Go.RowKit
theorem own:ownKnob Tryz.prog.godebug = none:=by kernel_rfl
theorem laid:laidOutB Tryz.prog = true:=by kernel_rfl
theorem gTab : Tryz.prog.globalNamed "internal/strconv.uint64pow10" = some 1 := by kernel_rfl
theorem Yp:(Tryz.prog.globals[1]?).map (·.type) = some 350:=by kernel_rfl
theorem Yq:Tryz.prog.cellsOf 350 = 20:=by kernel_rfl
theorem acv:Tryz.prog.cellsOf 83 = 1:=by kernel_rfl
theorem table {W : World} (h : laidMetH Tryz.prog Rows.rinsedUptoRow.laid W) : Lib.TabIs Tryz.prog W "internal/strconv.uint64pow10" .u64 Lib.pow10Tab := by
 rw[MakeChecks.laidMetH_plain _ _ _ (by kernel_rfl)]at h;obtain⟨ps, ⟨_, _, _, _, _, _, _, _, _, _, ⟨_, _, _, _, _, _, _, _, _, _, ⟨g, t, cs, fuel, p, q, hg', ht', hvar, hd, _, _⟩, _⟩, _⟩, _⟩:=h;obtain rfl:=Option.some.inj (gTab.symm.trans hg');obtain rfl:=Option.some.inj (Yp.symm.trans ht');unfold Lib.TabIs;have e:(Rows.laid_internal_strconv_uint64pow10:DataW Unit) = Lib.tabData .u64 Lib.pow10Tab:=by kernel_rfl
 rw[e]at hd;rw[hvar, <-Lib.cells_of_tab Tryz.underlying350 Tryz.underlying83 acv Yq hd]
theorem lit(W:World) (hsh:W.ShapedOpen Tryz.prog):Lit W:=by have h:∃m, W.cell? ⟨0, 0, none⟩ = some (.int .i64 m):=Go.Proofs.cell_of_shapedOpen_int (zero:=#[.int .i64 0]) (t:=3) hsh (of_decide_eq_true (by kernel_rfl)) (by kernel_rfl) rfl (by kernel_rfl) (by kernel_rfl) Tryz.underlying3;obtain⟨m, hm⟩:=h;exact⟨⟨m, hm⟩, World.block_lt_of_cell? W _ hm⟩
theorem contract(H:Type) (enc:TypeId×Value->H) (F:Stop.Interp) (W:World) (base:Nat) (args:Array Value) (ds gs:List (DataW H)) (before:List MemPlace)
  (hval:∀(j:Nat) t v, Tryz.f3.params[j]? = some t->args[j]? = some v->Value.okWide Tryz.prog W .any base t v)
  (hW:DataW.Whole enc Tryz.prog Tryz.f3.params.toList Rows.rinsedSpec.vars false W args.toList ds gs before) (hk:Rows.uptoSmall H (ds ++ gs) = true) (hL:laidMetH Tryz.prog Rows.rinsedUptoRow.laid W) (hsh:W.ShapedOpen Tryz.prog):
  Calls Tryz.prog 3 args W fun e W'=>∃v, e = .returned v/\((Rows.OpenSpec.upto Rows.rinsedSpec).at F).post enc Tryz.prog Tryz.f3 false true false false W args v W':=by
 have hW':=hW;obtain⟨p, q, hA0, hV, rfl, hfz, hnd⟩:=hW;have hA:DataW.TrodAll enc Tryz.prog W 0 (fun _=>true) true Tryz.f3.params.toList args.toList ds p:=hA0;rw[Tryz.params3]at hA hval;obtain⟨v0, v1, d0, d1, p0, p1, rfl, rfl, rfl, h0, h1⟩:=trodAll_two hA;obtain⟨rfl, rfl⟩:=trodVars_none hV;obtain⟨a0, len0, cap0, rfl⟩:=okWide_slice Tryz.underlying22 (hval 0 22 v0 rfl rfl);obtain⟨a1, len1, cap1, rfl⟩:=okWide_slice Tryz.underlying23 (hval 1 23 v1 rfl rfl);have h0k:=h0;have h1k:=h1;obtain⟨fuel0, hf0⟩:=h0;obtain⟨fuel1, hf1⟩:=h1;clear hA0;simp only[List.append_nil]at hW' hk;have hlt:∀x∈p0 ++ p1, x.block < W.heap.size:=fun x hx=>by simpa using hW'.lt x hx
 have hargs0:∀(W':World), Below W.heap.size W W'->DataW.Trod enc Tryz.prog W' 0 (fun b=>decide (b < W.heap.size)) true 22 (.slice a0 len0 cap0) d0 p0:=fun W' hn=>Below.trod laid (by kernel_rfl) (of_decide_eq_true (by kernel_rfl)) h0k hn (fun x hx=>hlt x (List.mem_append_left _ hx))
 have hargs1:∀(W':World), Below W.heap.size W W'->DataW.Trod enc Tryz.prog W' 0 (fun b=>decide (b < W.heap.size)) true 23 (.slice a1 len1 cap1) d1 p1:=fun W' hn=>Below.trod laid (by kernel_rfl) (of_decide_eq_true (by kernel_rfl)) h1k hn (fun x hx=>hlt x (List.mem_append_right _ hx))
 have hb:Rows.uptoBulkAll [d0, d1]<=1048576:=of_decide_eq_true hk;simp only[Rows.uptoBulkAll]at hb;obtain⟨b0, c0, zs, e0, S0⟩:=wK hf0 oo;obtain⟨b1, c1, ps, e1, S1⟩:=UM hf1 oo;simp[Value.cells]at e0 e1;obtain⟨rfl, rfl, rfl⟩:=e0;obtain⟨rfl, rfl, rfl⟩:=e1;refine(Yl W.heap.size zs ps _ _ W S0 S1 nl (aaw W (table hL)) (lit W hsh)).mono fun e W' ⟨he, hg⟩=>?_;subst he;refine⟨_, rfl, _, _, _, [], p0 ++ p1, [], hW', ?_, trodAll_mk2 (hargs0 _ hg) (hargs1 _ hg), rfl, hg.frame _, fun h=>by cases h⟩;exact trodAll_mk1 (shut_bool Tryz.underlying4 _)
/-- A world for the witness: the settled one, the three tables holding what their initialisers lay. -/
noncomputable def put (cs:Array Value):Obj->Obj
 |.cells _ t frozen=>.cells cs t frozen
 |o=>o
noncomputable def laidWorld (os:Os):World:=
 { World.holding Tryz.prog os ⟨#[], #[], []⟩with heap:=(((World.holding Tryz.prog os ⟨#[], #[], []⟩).heap.modify 1 (put #[.int .u64 1, .int .u64 10, .int .u64 100, .int .u64 1000, .int .u64 10000, .int .u64 100000, .int .u64 1000000, .int .u64 10000000, .int .u64 100000000, .int .u64 1000000000, .int .u64 10000000000, .int .u64 100000000000, .int .u64 1000000000000, .int .u64 10000000000000, .int .u64 100000000000000, .int .u64 1000000000000000, .int .u64 10000000000000000, .int .u64 100000000000000000, .int .u64 1000000000000000000, .int .u64 10000000000000000000])).modify 2 (put #[.int .u8 0, .int .u8 1, .int .u8 28, .int .u8 2, .int .u8 29, .int .u8 14, .int .u8 24, .int .u8 3, .int .u8 30, .int .u8 22, .int .u8 20, .int .u8 15, .int .u8 25, .int .u8 17, .int .u8 4, .int .u8 8, .int .u8 31, .int .u8 27, .int .u8 13, .int .u8 23, .int .u8 21, .int .u8 19, .int .u8 16, .int .u8 7, .int .u8 26, .int .u8 12, .int .u8 18, .int .u8 6, .int .u8 11, .int .u8 5, .int .u8 10, .int .u8 9])).modify 3 (put #[.int .u8 0, .int .u8 1, .int .u8 56, .int .u8 2, .int .u8 57, .int .u8 49, .int .u8 28, .int .u8 3, .int .u8 61, .int .u8 58, .int .u8 42, .int .u8 50, .int .u8 38, .int .u8 29, .int .u8 17, .int .u8 4, .int .u8 62, .int .u8 47, .int .u8 59, .int .u8 36, .int .u8 45, .int .u8 43, .int .u8 51, .int .u8 22, .int .u8 53, .int .u8 39, .int .u8 33, .int .u8 30, .int .u8 24, .int .u8 18, .int .u8 12, .int .u8 5, .int .u8 63, .int .u8 55, .int .u8 48, .int .u8 27, .int .u8 60, .int .u8 41, .int .u8 37, .int .u8 16, .int .u8 46, .int .u8 35, .int .u8 44, .int .u8 21, .int .u8 52, .int .u8 32, .int .u8 23, .int .u8 11, .int .u8 54, .int .u8 26, .int .u8 40, .int .u8 15, .int .u8 34, .int .u8 20, .int .u8 31, .int .u8 10, .int .u8 25, .int .u8 14, .int .u8 19, .int .u8 9, .int .u8 13, .int .u8 8, .int .u8 7, .int .u8 6]) }
theorem laid_met(os:Os):laidMet Tryz.prog Rows.rinsedUptoRow.laid ((laidWorld os).forCall (fun _ _=>0) ⟨#[], #[.slice none 0 0, .slice none 0 0], []⟩).memory:=laidMet_of_run' 8 (by kernel_rfl) (by kernel_rfl)
theorem reads(os:Os) {H:Type}(enc:TypeId×Value->H):∃places, DataW.whole enc Tryz.prog ((laidWorld os).forCall (fun _ _=>0) ⟨#[], #[.slice none 0 0, .slice none 0 0], []⟩).memory Tryz.f3.params.toList Rows.rinsedSpec.vars false #[Value.slice none 0 0, Value.slice none 0 0].toList 8 = some ([.nil, .nil], [], places):=⟨[], by kernel_rfl⟩
theorem lifted(os:Os) (started:os.Started) (H:Type) (enc:TypeId×Value->H) (F:Stop.Interp):
  ReturnsInHanded {} Tryz.checked os 3 .any ((Rows.OpenSpec.upto Rows.rinsedSpec).preRow enc Tryz.prog Tryz.f3 Rows.rinsedUptoRow.domain false Rows.rinsedUptoRow.laid) (((Rows.OpenSpec.upto Rows.rinsedSpec).at F).post enc Tryz.prog Tryz.f3 false true false false):=by
 obtain⟨places, hx⟩:=reads os enc;refine returnsInHanded_of_row (C:=Tryz.checked) (s:=Rows.OpenSpec.upto Rows.rinsedSpec) own started (by kernel_rfl) Tryz.func3
  (witness_row_at (enc:=enc) (C:=Tryz.checked) false (laidWorld os) #[.slice none 0 0, .slice none 0 0] rfl (by kernel_rfl) (by kernel_rfl) (by kernel_rfl)
   (OpenSpec.preRow_of_cond 8 hx (by kernel_rfl) (fun k hk=>by cases hk; kernel_rfl) (by kernel_rfl) (laid_met os))) ?_
 intro W base args ds gs before hval hW _ hcond _ hL hsh _;exact contract H enc F W base args ds gs before hval hW (hcond _ rfl) hL hsh
/-! The closed facts, each a declaration of its own. -/
theorem k1:(Rows.rinsedUptoRow.wf (OpenSpec.ofChange (Rows.OpenSpec.upto Rows.rinsedSpec).bare)) = true:=by kernel_rfl
theorem k2:(laidOutB Tryz.prog) = true:=by kernel_rfl
theorem k3:(mapsRowed Tryz.prog) = true:=by kernel_rfl
theorem k4:(Tryz.f3.params.all (Tryz.prog.readableRec ·)) = true:=by kernel_rfl
theorem k5:(namedTie Tryz.prog Rows.rinsedUptoRow.named (Rows.OpenSpec.upto Rows.rinsedSpec).bare.vars) = true:=by kernel_rfl
theorem k6:((Rows.rinsedUptoRow.stops == [])) = true:=by kernel_rfl
theorem k7:((Tryz.prog.stops == [])) = true:=by kernel_rfl
theorem k8:((Rows.rinsedUptoRow.knobs == [])) = true:=by kernel_rfl
theorem k9:((Tryz.prog.stopKnobs == [])) = true:=by kernel_rfl
theorem k10:((Rows.rinsedUptoRow.inPlace == Tryz.prog.inPlace 3)) = true:=by kernel_rfl
theorem k11:((Rows.rinsedUptoRow.unfollowed == Tryz.prog.unfollowed 3)) = true:=by kernel_rfl
theorem k12:((Rows.rinsedUptoRow.recurses == Tryz.prog.recurses 3)) = true:=by have e:Tryz.prog.unfollowed 3 = true:=(beq_iff_eq.1 k11).symm.trans rfl;unfold Program.recurses;rw[e];rfl
theorem k13:((Rows.rinsedUptoRow.named == Tryz.prog.varsNamed 3)) = true:=by kernel_rfl
theorem k14:((Rows.rinsedUptoRow.maps == (Tryz.f3.params.toList ++ (Rows.OpenSpec.upto Rows.rinsedSpec).bare.plain.varTypes Tryz.prog).any (Tryz.prog.mapsRec ·))) = true:=by kernel_rfl
theorem k15:((Rows.rinsedUptoRow.ifaces == (Tryz.f3.params.toList ++ (Rows.OpenSpec.upto Rows.rinsedSpec).bare.plain.varTypes Tryz.prog).any (Tryz.prog.ifacesRec ·))) = true:=by kernel_rfl
theorem k16:((Rows.rinsedUptoRow.mapsOut == Tryz.prog.mapsAmong Tryz.f3.resultTypes.toList)) = true:=by kernel_rfl
theorem k17:((Rows.rinsedUptoRow.loops == (Tryz.f3.params.toList ++ (Rows.OpenSpec.upto Rows.rinsedSpec).bare.plain.varTypes Tryz.prog).any (Tryz.prog.loopsFrom ·))) = true:=by kernel_rfl
theorem k18:((Rows.rinsedUptoRow.wideKeys == (Tryz.f3.params.toList ++ (Rows.OpenSpec.upto Rows.rinsedSpec).bare.plain.varTypes Tryz.prog ++ Tryz.f3.resultTypes.toList).any (Tryz.prog.wideKeysFrom ·))) = true:=by kernel_rfl
theorem k19:((Rows.OpenSpec.upto Rows.rinsedSpec).bare.vars.all (Tryz.prog.varReadable ·)) = true:=by kernel_rfl
theorem k20:(Tryz.f3.resultTypes.all (fun t=>Tryz.prog.readableRec t&&decide (t < Tryz.prog.types.size))) = true:=by kernel_rfl
theorem k21:((Rows.rinsedUptoRow.ifacesOut == Tryz.f3.resultTypes.toList.any (Tryz.prog.ifacesRec ·))) = true:=by kernel_rfl
theorem k22:((Rows.rinsedUptoRow.loopsOut == Tryz.f3.resultTypes.toList.any (Tryz.prog.loopsFrom ·))) = true:=by kernel_rfl
theorem k23:((Rows.rinsedUptoRow.plainKeys == Tryz.prog.plainKeys)) = true:=by kernel_rfl
theorem k24:(Rows.rinsedUptoRow.shortTexts.isNone) = true:=by kernel_rfl
theorem k25:(Tryz.prog.stopsHeard) = true:=by kernel_rfl
theorem k26:(Tryz.prog.mayEnter) = true:=by kernel_rfl
theorem k27:((Rows.rinsedUptoRow.lifted == Tryz.prog.liftsFinal)) = true:=by kernel_rfl
theorem k28:((Tryz.prog.make == some Rows.rinsedUptoRow.make)) = true:=by kernel_rfl
theorem k29:((Rows.rinsedUptoRow.kinds == (if Rows.rinsedUptoRow.domain.isEmpty then [] else Tryz.f3.params.toList.map fun t=>match Tryz.prog.underlying t with|some (.int k)=>some k|_=>none))) = true:=by kernel_rfl
theorem k30:((Rows.rinsedUptoRow.pinned == Rows.rinsedUptoRow.pinnedBy)) = true:=by kernel_rfl
theorem k31:((Rows.rinsedUptoRow.veiled == (Tryz.f3.params.toList ++ (Rows.OpenSpec.upto Rows.rinsedSpec).bare.plain.varTypes Tryz.prog ++ Tryz.f3.resultTypes.toList).any (Tryz.prog.veiledRec ·))) = true:=by kernel_rfl
theorem k32:(Rows.rinsedUptoRow.veiledFits Tryz.prog Tryz.f3.params.toList (Tryz.f3.params.toList ++ (Rows.OpenSpec.upto Rows.rinsedSpec).bare.plain.varTypes Tryz.prog ++ Tryz.f3.resultTypes.toList)) = true:=by kernel_rfl
theorem closed:joinedFacts Tryz.prog 3 Tryz.f3 (Rows.OpenSpec.upto Rows.rinsedSpec).bare Rows.rinsedUptoRow = true:=by unfold joinedFacts;simp only[Bool.and_eq_true];exact⟨⟨⟨⟨⟨⟨⟨⟨⟨⟨⟨⟨⟨⟨⟨⟨⟨⟨⟨⟨⟨⟨⟨⟨⟨⟨⟨⟨⟨⟨⟨k1, k2⟩, k3⟩, k4⟩, k5⟩, k6⟩, k7⟩, k8⟩, k9⟩, k10⟩, k11⟩, k12⟩, k13⟩, k14⟩, k15⟩, k16⟩, k17⟩, k18⟩, k19⟩, k20⟩, k21⟩, k22⟩, k23⟩, k24⟩, k25⟩, k26⟩, k27⟩, k28⟩, k29⟩, k30⟩, k31⟩, k32⟩
theorem said:Rows.RinsedUptoSaid:=
 OpenClaim.holds_of_cond 3 Tryz.f3 rfl rfl rfl rfl rfl rfl rfl ⟨rfl, rfl, rfl, rfl, rfl⟩ rfl rfl rfl rfl rfl (by kernel_rfl) Tryz.func3 closed
  (of_decide_eq_true (by kernel_rfl)) (by unfold Func.isWrapper; first|(rw[if_pos (by decide +kernel)]; kernel_rfl)|(rw[if_neg (by decide +kernel)]; exact⟨rfl, rfl⟩))
  (fun os started H enc _ F=>by rw[OpenClaim.pre_eq_preRow]; exact lifted os started H enc F)
theorem plain (f : FuncId) (fn : Func) (hf : Tryz.pinned.checked.prog.funcNamed "rinse/rinselaw.Rinsed" = some f) (hfn : Tryz.pinned.checked.prog.funcs[f]? = some fn) :
  false = Tryz.pinned.checked.prog.looks []/\∀(j:Nat) t, fn.params[j]? = some t->Tryz.pinned.checked.prog.wantsStandIn t = false:=by
 obtain rfl : f = 3 := Option.some.inj ((show Tryz.prog.funcNamed "rinse/rinselaw.Rinsed" = some 3 by kernel_rfl).symm.trans hf) |>.symm;obtain rfl : fn = Tryz.f3 := (Option.some.inj (Tryz.func3.symm.trans hfn)).symm;refine ⟨by kernel_rfl, fun j t ht => ?_⟩;rw [Tryz.params3] at ht;have hm : t = 22 ∨ t = 23 := by simpa using Array.mem_of_getElem? ht
 rcases hm with rfl|rfl
 .exact(show Tryz.prog.wantsStandIn 22 = false by kernel_rfl)
 .exact(show Tryz.prog.wantsStandIn 23 = false by kernel_rfl)
theorem card:Rows.RinsedUptoCardSaid:=Claim7.holds_tied_plain_at .later [] _ _ _ _ said (fun _ h=>by cases h) (by kernel_rfl) (fun _ h=>by cases h) rinsedUpto_row_tie rfl ⟨rfl, rfl⟩ (by kernel_rfl) rfl plain (by kernel_rfl)
end Go.Proofs.YtlliliddljkbfaaGreatDoor.Gx
namespace Go.Proofs.YtlliliddljkbfaaGreatDoor
set_option maxHeartbeats 64000000
set_option maxRecDepth 100000
theorem rinsedUpto_holds:Rows.RinsedUptoCardSaid:=Gx.card
end Go.Proofs.YtlliliddljkbfaaGreatDoor
