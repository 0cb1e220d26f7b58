/-
 Proved: for every three texts, every list of raw elements and every three numbers rinsekeep.Framed hands back true and its arguments read behind the call as they did before: a rinsed sheet with other rinsed rules ahead of it, and whatever behind it, is as three sheets one behind the other.
 Conditions: none; of internal/bytealg.MaxLen and of the library's tables it speaks for every value.
-/
import Derived.Test.YtlliliddljkbfaaGreatC13
set_option maxHeartbeats 64000000
set_option maxRecDepth 100000
namespace Go.Proofs.YtlliliddljkbfaaGreat.framed
open Go.ChangeShapes Go.WideShapes Go.ChangeAt Go.RowKit Go.ChangeMaps
theorem own:ownKnob Tryz.prog.godebug=none:=by kernel_rfl
theorem laid:laidOutB Tryz.prog=true:=by kernel_rfl
theorem lit(W:World) (hsh:W.ShapedOpen Tryz.prog):Lit W:=by have h:∃m,W.cell? ⟨0,0,none⟩=some (.int .i64 m):=Go.Proofs.cell_of_shapedOpen_int (zero:=#[.int .i64 0]) (t:=3) hsh (of_decide_eq_true (by kernel_rfl)) (by kernel_rfl) rfl (by kernel_rfl) (by kernel_rfl) Tryz.underlying3;obtain⟨m,hm⟩:=h;exact⟨⟨m,hm⟩,World.block_lt_of_cell? W _ hm⟩
section
variable {H:Type} {enc:TypeId × Value -> H}
/-- The wrap, the world's shape handed on. -/
theorem wrap{a:Assume}{C:Checked}{os:Os}{f:FuncId}{fn:Func}{s:ChangeSpec}{conds:List PathCond}{apart fresh handsOn again:Bool}
 (own:ownKnob C.prog.godebug=none) (started:os.Started) (noInit:C.prog.inits.idxOf? f=none) (hfn:C.prog.funcs[f]?=some fn)
 (witness:∃(w:World) (tape:Tape) (i:Input),w.os=os/\(w.forCall tape i).Shaped C.prog/\i.vars=[]/\Input.okWide C.prog (w.forCall tape i) .any w.heap.size f i /\
  s.pre6 enc C.prog fn conds apart (w.forCall tape i).memory i.args/\a.holds C.prog (lone (Frame.enter C.prog f i.args .normal) [] (w.forCall tape i)))
 (contract:∀(W:World) (base:Nat) (args:Array Value) (ds gs:List (DataW H)) (before:List MemPlace),
  (∀(j:Nat) t v,fn.params[j]?=some t->args[j]?=some v->Value.okWide C.prog W .any base t v) ->
  DataW.Whole enc C.prog fn.params.toList s.vars apart W args.toList ds gs before->W.ShapedOpen C.prog ->
  Calls C.prog f args W fun e W'=>∃v,e = .returned v/\s.post enc C.prog fn apart fresh handsOn again W args v W'):
 ReturnsInHanded a C os f .any (s.pre6 enc C.prog fn conds apart) (s.post enc C.prog fn apart fresh handsOn again):=by
 refine returnsInHanded_of_calls own started noInit witness ?_;intro w tape i _ hsh _ hok hpre _;obtain⟨_,_,_,fn',hfn',_,_,_,_,hval⟩:=hok;have e:fn'=fn:=Option.some.inj (hfn'.symm.trans hfn);subst e;obtain⟨⟨ds,gs,before,hw,_⟩,_⟩:=hpre;refine(contract (w.forCall tape i) w.heap.size i.args ds gs before hval (DataW.Whole.of_heap (w':=w.forCall tape i) (by rfl) hw) hsh).mono fun e W' ⟨v,he,hp⟩=>?_;subst he;exact ChangeSpec.post_blind hp
end
theorem Yi{n:Int}(h:(Lit.int .i64 n).wf=true): -9223372036854775808<=n/\n<=9223372036854775807:=by
 unfold Lit.wf at h;simp only[Bool.and_eq_true,decide_eq_true_eq]at h;have e1:IntKind.i64.min = -9223372036854775808:=by decide
 have e2:IntKind.i64.max=9223372036854775807:=by decide
 rw[e1,e2]at h;exact h
theorem contract(H:Type) (enc:TypeId×Value->H) (W:World) (base:Nat) (args:Array Value) (ds gs:List (DataW H)) (before:List MemPlace)
 (hval:∀(j:Nat) t v,Tryz.f9.params[j]?=some t->args[j]?=some v->Value.okWide Tryz.prog W .any base t v)
 (hW:DataW.Whole enc Tryz.prog Tryz.f9.params.toList Rows.framedSpec.vars false W args.toList ds gs before) (hsh:W.ShapedOpen Tryz.prog):
 Calls Tryz.prog 9 args W fun e W'=>∃v,e = .returned v/\Rows.framedSpec.post enc Tryz.prog Tryz.f9 false true false false W args v W':=by
 have hW':=hW;obtain⟨p,q,hA0,hV,rfl,hfz,hnd⟩:=hW;have hA:DataW.TrodAll enc Tryz.prog W 0 (fun _=>true) true Tryz.f9.params.toList args.toList ds p:=hA0;rw[Tryz.params9]at hA hval;obtain⟨v0,r0,d0,e0,p0,q0,ha,rfl,rfl,h0,hA⟩:=trodAll_cons hA;obtain⟨v1,r1,d1,e1,p1,q1,rfl,rfl,rfl,h1,hA⟩:=trodAll_cons hA;obtain⟨v2,r2,d2,e2,p2,q2,rfl,rfl,rfl,h2,hA⟩:=trodAll_cons hA;obtain⟨v3,r3,d3,e3,p3,q3,rfl,rfl,rfl,h3,hA⟩:=trodAll_cons hA;obtain⟨v4,r4,d4,e4,p4,q4,rfl,rfl,rfl,h4,hA⟩:=trodAll_cons hA;obtain⟨v5,r5,d5,e5,p5,q5,rfl,rfl,rfl,h5,hA⟩:=trodAll_cons hA;obtain⟨v6,r6,d6,e6,p6,q6,rfl,rfl,rfl,h6,hA⟩:=trodAll_cons hA;obtain⟨rfl,rfl,rfl⟩:=trodAll_nil hA;obtain rfl:args = #[v0,v1,v2,v3,v4,v5,v6]:=by cases args; simp_all
 obtain⟨rfl,rfl⟩:=trodVars_none hV;obtain⟨s,rfl,rfl,rfl,hs⟩:=open_string Tryz.underlying9 (hval 0 9 v0 rfl rfl) h0;obtain⟨ah,rfl,rfl,rfl,hah⟩:=open_string Tryz.underlying9 (hval 1 9 v1 rfl rfl) h1;obtain⟨bh,rfl,rfl,rfl,hbh⟩:=open_string Tryz.underlying9 (hval 2 9 v2 rfl rfl) h2;obtain⟨a1,len1,cap1,rfl⟩:=okWide_slice Tryz.underlying49 (hval 3 49 v3 rfl rfl);obtain⟨a,rfl,rfl,rfl,k1⟩:=open_int Tryz.underlying3 (hval 4 3 v4 rfl rfl) h4;obtain⟨b,rfl,rfl,rfl,k2⟩:=open_int Tryz.underlying3 (hval 5 3 v5 rfl rfl) h5;obtain⟨c,rfl,rfl,rfl,k3⟩:=open_int Tryz.underlying3 (hval 6 3 v6 rfl rfl) h6;have h3k:=h3;obtain⟨fuel1,hf1⟩:=h3;clear hA0 hA;simp only[List.append_nil,List.nil_append]at hW';have hlt:∀x∈p3,x.block < W.heap.size:=fun x hx=>by simpa using hW'.lt x hx
 have hargs1:∀(W':World),Below W.heap.size W W'->DataW.Trod enc Tryz.prog W' 0 (fun b=>decide (b < W.heap.size)) true 49 (.slice a1 len1 cap1) d3 p3:=fun W' hn=>Below.trod laid (by kernel_rfl) (of_decide_eq_true (by kernel_rfl)) h3k hn hlt
 obtain⟨b1,n1,c1,f1,g1,R1⟩:=afF hf1;simp[Value.cells]at g1;obtain⟨rfl,rfl,rfl⟩:=g1;obtain⟨t,ht⟩:=ajH W hsh;obtain⟨t2,ht2⟩:=ah0 W hsh;refine(@aoy ⟨jW t⟩ t2 s ah bh a1 len1 cap1 f1 a b c W.heap.size W hs hah hbh R1 nl (Yi k1) (Yi k2) (Yi k3) (adT t W ht) (lit W hsh) ht2 Jk).mono fun e W' ⟨he,hg⟩=>?_;subst he;refine⟨_,rfl,_,_,_,[],p3,[],hW',?_,?_,rfl,hg.frame _,fun h=>by cases h⟩
 .exact trodAll_mk1 (shut_bool Tryz.underlying4 _)
 .have:=trodAll_cons_mk (shut_string (enc:=enc) (P:=Tryz.prog) (w:=W') (base:=0) (sp:=fun b=>decide (b < W.heap.size)) (held:=true) Tryz.underlying9 hs) (trodAll_cons_mk (shut_string Tryz.underlying9 hah) (trodAll_cons_mk (shut_string Tryz.underlying9 hbh) (trodAll_cons_mk (hargs1 _ hg) (trodAll_mk3 (shut_int Tryz.underlying3 k1) (shut_int Tryz.underlying3 k2) (shut_int Tryz.underlying3 k3)))));simp only[List.nil_append,List.append_nil]at this;exact this
theorem lifted(os:Os) (started:os.Started) (H:Type) (enc:TypeId×Value->H):
 ReturnsInHanded {} Tryz.checked os 9 .any (Rows.framedSpec.pre6 enc Tryz.prog Tryz.f9 Rows.framedRow.domain false) (Rows.framedSpec.post enc Tryz.prog Tryz.f9 false true false false):=by
 refine wrap (C:=Tryz.checked) own started (by kernel_rfl) Tryz.func9
  (ChangeSpec.witness6 (enc:=enc) (C:=Tryz.checked) false ⟨#[],#[.string ⟨#[]⟩,.string ⟨#[]⟩,.string ⟨#[]⟩,.slice none 0 0,.int .i64 0,.int .i64 0,.int .i64 0],[]⟩ 8 (by kernel_rfl) (by kernel_rfl) (by kernel_rfl) (by kernel_rfl)) ?_
 intro W base args ds gs before hval hW hsh;exact contract H enc W base args ds gs before hval hW hsh
theorem k1:(Rows.framedRow.wf (OpenSpec.ofChange Rows.framedSpec))=true:=by kernel_rfl
theorem k2:(laidOutB Tryz.prog)=true:=by kernel_rfl
theorem k3:(mapsRowed Tryz.prog)=true:=by kernel_rfl
theorem k4:(Tryz.f9.params.all (Tryz.prog.readableRec ·))=true:=by kernel_rfl
theorem k5:(namedTie Tryz.prog Rows.framedRow.named Rows.framedSpec.vars)=true:=by kernel_rfl
theorem k6:((Rows.framedRow.stops==[]))=true:=by kernel_rfl
theorem k7:((Tryz.prog.stops==[]))=true:=by kernel_rfl
theorem k8:((Rows.framedRow.knobs==[]))=true:=by kernel_rfl
theorem k9:((Tryz.prog.stopKnobs==[]))=true:=by kernel_rfl
theorem k10:((Rows.framedRow.inPlace==Tryz.prog.inPlace 9))=true:=by kernel_rfl
theorem k11:((Rows.framedRow.unfollowed==Tryz.prog.unfollowed 9))=true:=by kernel_rfl
theorem k12:((Rows.framedRow.recurses==Tryz.prog.recurses 9))=true:=by have e:Tryz.prog.unfollowed 9=true:=(beq_iff_eq.1 k11).symm.trans rfl;unfold Program.recurses;rw[e];rfl
theorem k13:((Rows.framedRow.named==Tryz.prog.varsNamed 9))=true:=by kernel_rfl
theorem k14:((Rows.framedRow.maps==(Tryz.f9.params.toList++Rows.framedSpec.plain.varTypes Tryz.prog).any (Tryz.prog.mapsRec ·)))=true:=by kernel_rfl
theorem k15:((Rows.framedRow.ifaces==(Tryz.f9.params.toList++Rows.framedSpec.plain.varTypes Tryz.prog).any (Tryz.prog.ifacesRec ·)))=true:=by kernel_rfl
theorem k16:((Rows.framedRow.mapsOut==Tryz.prog.mapsAmong Tryz.f9.resultTypes.toList))=true:=by kernel_rfl
theorem k17:((Rows.framedRow.loops==(Tryz.f9.params.toList++Rows.framedSpec.plain.varTypes Tryz.prog).any (Tryz.prog.loopsFrom ·)))=true:=by kernel_rfl
theorem k18:((Rows.framedRow.wideKeys==(Tryz.f9.params.toList++Rows.framedSpec.plain.varTypes Tryz.prog++Tryz.f9.resultTypes.toList).any (Tryz.prog.wideKeysFrom ·)))=true:=by kernel_rfl
theorem k19:(Rows.framedSpec.vars.all (Tryz.prog.varReadable ·))=true:=by kernel_rfl
theorem k20:(Tryz.f9.resultTypes.all (fun t=>Tryz.prog.readableRec t&&decide (t < Tryz.prog.types.size)))=true:=by kernel_rfl
theorem k21:((Rows.framedRow.ifacesOut==Tryz.f9.resultTypes.toList.any (Tryz.prog.ifacesRec ·)))=true:=by kernel_rfl
theorem k22:((Rows.framedRow.loopsOut==Tryz.f9.resultTypes.toList.any (Tryz.prog.loopsFrom ·)))=true:=by kernel_rfl
theorem k23:((Rows.framedRow.plainKeys==Tryz.prog.plainKeys))=true:=by kernel_rfl
theorem k24:(Rows.framedRow.shortTexts.isNone)=true:=by kernel_rfl
theorem k25:(Tryz.prog.stopsHeard)=true:=by kernel_rfl
theorem k26:(Tryz.prog.mayEnter)=true:=by kernel_rfl
theorem k27:((Rows.framedRow.lifted==Tryz.prog.liftsFinal))=true:=by kernel_rfl
theorem k28:((Tryz.prog.make==some Rows.framedRow.make))=true:=by kernel_rfl
theorem k29:((Rows.framedRow.kinds==(if Rows.framedRow.domain.isEmpty then [] else Tryz.f9.params.toList.map fun t=>match Tryz.prog.underlying t with|some (.int k)=>some k|_=>none)))=true:=by kernel_rfl
theorem k30:((Rows.framedRow.pinned==Rows.framedRow.pinnedBy))=true:=by kernel_rfl
theorem k31:((Rows.framedRow.veiled==(Tryz.f9.params.toList++Rows.framedSpec.plain.varTypes Tryz.prog++Tryz.f9.resultTypes.toList).any (Tryz.prog.veiledRec ·)))=true:=by kernel_rfl
theorem k32:(Rows.framedRow.veiledFits Tryz.prog Tryz.f9.params.toList (Tryz.f9.params.toList++Rows.framedSpec.plain.varTypes Tryz.prog++Tryz.f9.resultTypes.toList))=true:=by kernel_rfl
theorem closed:joinedFacts Tryz.prog 9 Tryz.f9 Rows.framedSpec Rows.framedRow=true:=by unfold joinedFacts;simp only[Bool.and_eq_true];exact⟨⟨⟨⟨⟨⟨⟨⟨⟨⟨⟨⟨⟨⟨⟨⟨⟨⟨⟨⟨⟨⟨⟨⟨⟨⟨⟨⟨⟨⟨⟨k1,k2⟩,k3⟩,k4⟩,k5⟩,k6⟩,k7⟩,k8⟩,k9⟩,k10⟩,k11⟩,k12⟩,k13⟩,k14⟩,k15⟩,k16⟩,k17⟩,k18⟩,k19⟩,k20⟩,k21⟩,k22⟩,k23⟩,k24⟩,k25⟩,k26⟩,k27⟩,k28⟩,k29⟩,k30⟩,k31⟩,k32⟩
theorem proved:Rows.FramedSaid:=
 OpenClaim.holds_of_wide 9 Tryz.f9 rfl rfl rfl rfl rfl rfl rfl ⟨rfl,rfl,rfl,rfl,rfl⟩ rfl rfl rfl rfl rfl (by kernel_rfl) Tryz.func9 closed
 (of_decide_eq_true (by kernel_rfl)) (by unfold Func.isWrapper; first|(rw[if_pos (by decide +kernel)]; kernel_rfl)|(rw[if_neg (by decide +kernel)]; exact⟨rfl,rfl⟩))
 (fun os started H enc _=>lifted os started H enc)
end Go.Proofs.YtlliliddljkbfaaGreat.framed
namespace Go.Proofs.YtlliliddljkbfaaGreat
theorem framed_holds:Rows.FramedSaid:=framed.proved
end Go.Proofs.YtlliliddljkbfaaGreat
