import Derived.Test.YtlliliddljkbfaaGreatC8
set_option maxHeartbeats 64000000
set_option maxRecDepth 100000
namespace Go.Proofs.YtlliliddljkbfaaGreat
open Go.Proofs.Tryz (prog)
open Go.RowKit Sp
theorem adh{p:aF}{pv fv av:Av}{rec:List Nd->BY}{w:WD}{sh:Bool}{l:List Nd}(hg:gL l)(hz:dL l<=4000000)(hsz:∀b,gL b->(rec b).size<=300*dL b)
  (hrec:∀b,gL b->depth b+1<=depth l->dL b<=4000000->vX p pv fv av (rules false b) (rec b) w):∀r∈rules sh l,FH p pv fv av rec w r:=by
 intro r hr;obtain⟨h1,h2,h3,h4⟩:=mP hg r hr;have h5:=kU r.head;have h6:dL r.head+dL (r.body.getD [])<=4000000:=by unfold rwz at h4;omega
 have hgb:gL (r.body.getD []):=by
  cases hb:r.body with
  |none=>show gL [];simp[gL]
  |some b=>exact(h3 b hb).1
 refine⟨Sm _ h1,aio h1,h2,oo,fun ss hs=>?_,fun _ d hd=>?_,fun _=>?_,?_,fun x b hx hb=>?_⟩
 .have:=OM _ _ _ hs;omega
 .exact aio (qw hgb ((Dl (r.body.getD [])).2 d hd))
 .have:=(Dl (r.body.getD [])).1;omega
 .have:=hsz _ hgb;omega
 .have h7:=h3 b hb;rw[hb]at h6;exact hrec b h7.1 h7.2 (by show dL b<=_;have:dL r.head+dL b<=4000000:=h6;omega)
theorem Sz[bV](p:aF)(pv fv av:Av)(hds:jm)(hpr:allB jh p.root=true)(AY:p.root.size<=12):∀(f:Nat) (sh:Bool) (l:List Nd) (B:Nat) (w:WD),jK B w p pv fv av->jD w->gL l->depth l<=f->dL l<=4000000->vX p pv fv av (rules sh l) (tY p f sh l) w
 |0,sh,l,B,w,hP,hI,hg,hd,hz=>by
  intro u w' hb hs;have hlt:=hP.lt;have hv:tY p 0 sh l=aG ((rules sh l).map (kE p (fun _=>aA))):=by unfold tY;rw[Ju,Gy hg]
  rw[hv];refine FI w'.heap.size p pv fv av (fun _=>aA) (rules sh l) u w' ((hP.below hb hlt).mono (by have:=hb.size;omega) nl) hs (hI.below hb nl) hds hpr AY ?_ ?_
  .exact adh hg hz (fun b _=>by show 0<=_;omega) (fun b _ h _=>by omega)
  .have:=uF hds (rec:=fun _=>aA) AY (rules sh l) (fun r hr=>⟨(mP hg r hr).1,fun b _=>by show 0<=_;omega⟩);have:=(pO sh l).1;omega
 |f+1,sh,l,B,w,hP,hI,hg,hd,hz=>by
  intro u w' hb hs;have hlt:=hP.lt;have hv:tY p (f+1) sh l=aG ((rules sh l).map (kE p (tY p f false))):=by
   conv=>lhs;unfold tY
   rw[Ju,Gy hg]
  rw[hv];have hP':jK w'.heap.size w' p pv fv av:=(hP.below hb hlt).mono (by have:=hb.size;omega) nl;have hI':=hI.below hb nl;refine FI w'.heap.size p pv fv av (tY p f false) (rules sh l) u w' hP' hs hI' hds hpr AY ?_ ?_
  .exact adh hg hz (fun b hgb=>zh hds p AY f false b hgb) (fun b hgb h hzb=>Sz p pv fv av hds hpr AY f false b _ w' hP' hI' hgb oo hzb)
  .have:=uF hds (rec:=tY p f false) AY (rules sh l) (fun r hr=>⟨(mP hg r hr).1,fun b hb=>zh hds p AY f false b ((mP hg r hr).2.2.1 b hb).1⟩);have:=(pO sh l).1;omega
theorem SA:∃i,prog.info? 199=some i/\i.zero=some (.agg #[.int .i64 0,.string ⟨#[]⟩,.string ⟨#[]⟩,.slice none 0 0])/\i.size=4/\i.bytes=64:=info_parts An
theorem adi:∃i,prog.info? 195=some i/\i.zero=some (.agg #[.int .i64 0,.string ⟨#[]⟩,.string ⟨#[]⟩,.string ⟨#[]⟩,.slice none 0 0])/\i.size=5/\i.bytes=80:=info_parts An
theorem vF.last{base:Nat}{w:WD}{v:Av}{L:List Fr}{f:Fr}(h:vF base w v (L++[f])){g n cap:Nat}(e:v=.slice (some ⟨g,0,none⟩) n cap)(j:Nat)(u:Av)(hu:f.cells[j]?=some u):w.cell? ⟨g,L.length*5+j,none⟩=some u:=by
 have hj:j<5:=by have:=(List.getElem?_eq_some_iff.1 hu).1;simpa[Fr.cells]using this
 have:=h.row.cells (g:=g) (by rw[e];rfl) (L.length*5+j) u (by rw[List.flatMap_append,List.getElem?_append_right (by rw[kS];omega),kS];simpa using hu)
 rwa[Addr.add_lit,Nat.zero_add]at this
theorem vF.form{base:Nat}{w:WD}{v:Av}{L:List Fr}{f:Fr}(h:vF base w v (L++[f])):∃g cap,v=.slice (some ⟨g,0,none⟩) (L.length+1) cap:=by have:=h.row;rw[List.length_append]at this;exact Gu this
theorem agB{w:WD}{base e s n n' cap:Nat}{a:Option Addr}{xs:List Av}(h:w.ownsRow base e s (.slice a n cap) n' xs):n<=cap:=by
 rcases h.2 with⟨hv,hn⟩|⟨_,_,_,hv,_,_,hnc,_⟩
 .injection hv;omega
 .injection hv;omega
theorem put_comm(w:WD){g gv o a0 a1 a2 a3:Nat}(h:gv≠g)(y x0 x1 x2 x3:Av):((((w.setCell ⟨gv,a0,none⟩ x0).setCell ⟨gv,a1,none⟩ x1).setCell ⟨gv,a2,none⟩ x2).setCell ⟨gv,a3,none⟩ x3).setCell ⟨g,o,none⟩ y=((((w.setCell ⟨g,o,none⟩ y).setCell ⟨gv,a0,none⟩ x0).setCell ⟨gv,a1,none⟩ x1).setCell ⟨gv,a2,none⟩ x2).setCell ⟨gv,a3,none⟩ x3:=by have c:∀(w:WD) (a:Nat) (x:Av),(w.setCell ⟨gv,a,none⟩ x).setCell ⟨g,o,none⟩ y=(w.setCell ⟨g,o,none⟩ y).setCell ⟨gv,a,none⟩ x:=fun w a x=>Ou w (by exact h) _ _;rw[c,c,c,c]
theorem FK(base:Nat)(L:List Fr)(f1 f2:Fr)(v:Av)(w:WD)(h:vF base w v (L++[f1]++[f2]))(hL:L.length<=600)(h1:f1.ins.length<=600)(h2:f2.ins.length<=600)(hb:base<=w.heap.size):
  Calls prog 110 #[v] w fun e w'=>∃v' f,e=.returned v'/\vF base w' v' (L++[f])/\f.tok=f1.tok/\f.ins=f1.ins++[.mk f2.tok f2.ins]/\Below base w w':=by
 obtain⟨g,cap,rfl⟩:=h.form;have hlen:(L++[f1]).length=L.length+1:=by simp
 rw[hlen]at h⊢;have b0:=h.last rfl 0 _ rfl;have b1:=h.last rfl 1 _ rfl;have b2:=h.last rfl 2 _ rfl;have b3:=h.last rfl 3 _ rfl;have b4:=h.last rfl 4 _ rfl;rw[hlen]at b0 b1 b2 b3 b4;rw[Nat.add_zero]at b0;obtain⟨hd,hsl⟩:=h.drop h2 rfl;rw[hlen]at hd hsl;have HD:Hid (vF base w (.slice (some ⟨g,0,none⟩) (L.length+1) cap) (L++[f1])):=hd;have HSL:=hid hsl;have VJ:=hid (h.ok f2 Aa);have hg:=h.row.lt g rfl;obtain⟨a2,c2,e2⟩:=hsl.form;have hcap:L.length+1+1<=cap:=agB h.row;clear h hd hsl;rw[e2]at b4 HSL;go_in;go_upto_region 4 with fail
 have A2:Hid (vF base (w.alloc (.cells #[.int .i64 f2.tok.kind,.string f2.tok.word,.string f2.tok.unit,.string (closing f2.tok),.slice a2 f2.ins.length c2] 195)) (.slice (some ⟨g,0,none⟩) (L.length+1) cap) (L++[f1])):=HD.o.keep Aa fun k _ hk=>Below.heap_alloc _ _ _ hk;have S2:Hid (Sl (BX base (w.alloc (.cells #[.int .i64 f2.tok.kind,.string f2.tok.word,.string f2.tok.unit,.string (closing f2.tok),.slice a2 f2.ins.length c2] 195)) (.slice (some ⟨g,0,none⟩) (L.length+1) cap) (L++[f1])) (w.alloc (.cells #[.int .i64 f2.tok.kind,.string f2.tok.word,.string f2.tok.unit,.string (closing f2.tok),.slice a2 f2.ins.length c2] 195)) (.slice a2 f2.ins.length c2) f2.ins):=HSL.o.keep (fun k hk=>⟨hk.1,by have:=hk.2.1;simp;omega,hk.2.2⟩) fun k hk=>Below.heap_alloc _ _ _ hk.2.1
 have B2:Hid (Below base w (w.alloc (.cells #[.int .i64 f2.tok.kind,.string f2.tok.word,.string f2.tok.unit,.string (closing f2.tok),.slice a2 f2.ins.length c2] 195))):=As.alloc hb _;have l0:∀j u,[Value.int .i64 f2.tok.kind,.string f2.tok.word,.string f2.tok.unit,.string (closing f2.tok),.slice a2 f2.ins.length c2][j]?=some u->(w.alloc (.cells #[.int .i64 f2.tok.kind,.string f2.tok.word,.string f2.tok.unit,.string (closing f2.tok),.slice a2 f2.ins.length c2] 195)).cell? ⟨w.heap.size,j,none⟩=some u:=by intro j u hu;rw[World.cell?_alloc_mark,<-hu];simp
 have d0:=l0 0 _ rfl;have d1:=l0 1 _ rfl;have d2:=l0 2 _ rfl;have d4:=l0 4 _ rfl;have hz:w.heap.size<(w.alloc (.cells #[.int .i64 f2.tok.kind,.string f2.tok.word,.string f2.tok.unit,.string (closing f2.tok),.slice a2 f2.ins.length c2] 195)).heap.size:=by simp
 generalize w.alloc (.cells #[.int .i64 f2.tok.kind,.string f2.tok.word,.string f2.tok.unit,.string (closing f2.tok),.slice a2 f2.ins.length c2] 195)=w2 at *;generalize w.heap.size=gl at *;clear l0 b0 b1 b2 b3 b4 HD HSL;obtain⟨iT,hiT⟩:=SA;have HI:=hid hiT;clear hiT;have hf:w2.cell? ⟨g,L.length*5+4,none⟩=some f1.v:=A2.o.last rfl 4 _ rfl;have hz4:w2.frozen? ⟨g,L.length*5+4,none⟩=false:=by have hr:=A2.o.row;rw[hlen]at hr;exact hr.frozenAt _
 have O2:=hid (A2.o.own f1 Aa);obtain⟨ka,kc,e1⟩:=kQ O2.o;have hap:some g≠f1.v.ownBlock:=fun e2=>A2.o.apart (f:=f1) Aa g rfl e2.symm;have hgb:=A2.o.row.lt g rfl;rw[e1]at hf O2 hap;have r2:(f1.ins.length:Int)<(f1.ins.length:Int)+1:=oo;have HCL:=hid O2.o.1
 have agC:Hid (∀(gv vc:Nat) (X:Obj) (w4:WD),w4.ownsRow base 199 4 (.slice (some ⟨gv,0,none⟩) (f1.ins.length+1) vc) (f1.ins.length+1) (f1.cs++[.int .i64 0,.string ⟨#[]⟩,.string ⟨#[]⟩,.slice none 0 0])->(w2.drew.alloc X).grownBy w4 (Value.ownBlock (.slice ka f1.ins.length kc))->(some gv=Value.ownBlock (.slice ka f1.ins.length kc)\/some gv=some (w2.drew.alloc X).heap.size)->∃v' f,v'=.slice (some ⟨g,0,none⟩) (L.length+1) cap/\vF base (((((w4.setCell ⟨g,L.length*5+4,none⟩ (.slice (some ⟨gv,0,none⟩) (f1.ins.length+1) vc)).setCell ⟨gv,f1.ins.length*4,none⟩ (.int .i64 f2.tok.kind)).setCell ⟨gv,f1.ins.length*4+1,none⟩ (.string f2.tok.word)).setCell ⟨gv,f1.ins.length*4+2,none⟩ (.string f2.tok.unit)).setCell ⟨gv,f1.ins.length*4+3,none⟩ (.slice a2 f2.ins.length c2)) v' (L++[f])/\f.tok=f1.tok/\f.ins=f1.ins++[.mk f2.tok f2.ins]/\Below base w (((((w4.setCell ⟨g,L.length*5+4,none⟩ (.slice (some ⟨gv,0,none⟩) (f1.ins.length+1) vc)).setCell ⟨gv,f1.ins.length*4,none⟩ (.int .i64 f2.tok.kind)).setCell ⟨gv,f1.ins.length*4+1,none⟩ (.string f2.tok.word)).setCell ⟨gv,f1.ins.length*4+2,none⟩ (.string f2.tok.unit)).setCell ⟨gv,f1.ins.length*4+3,none⟩ (.slice a2 f2.ins.length c2))):=by
  intro gv vc X w4 hown hgr hat;have OO:base<=gv:=(hown.lt gv rfl).1;have hlo:∀rr,Value.ownBlock (.slice ka f1.ins.length kc)=some rr->base<=rr:=fun rr hr=>(O2.o.lt rr hr).1;refine⟨_,_,rfl,A2.o.put (W:=w2.drew.alloc X) rfl (.mk f2.tok f2.ins) _ ⟨S2.o,VJ.o⟩ ?_ ?_ hown ?_ ?_,rfl,rfl,?_⟩
  .simp
  .exact fun k hk=>Below.heap_alloc _ _ _ hk
  .rw[e1];exact hgr
  .rw[e1];exact hat
  .exact(((((((B2.o.drew.alloc (by have:=hgb.1;have:=hgb.2;show base<=w2.heap.size;omega) X).grown hgr Al hlo).setCell hgb.1 _).setCell OO _).setCell OO _).setCell OO _).setCell OO _)
 go_region_law (refine qY rfl (.tmp 24) (.tmp 31) 128 rfl base 199 iT (.agg #[.int .i64 0,.string ⟨#[]⟩,.string ⟨#[]⟩,.slice none 0 0]) 4 64 Tryz.underlying128 HI.o.1 HI.o.2.1 HI.o.2.2.1 HI.o.2.2.2 rfl oo (.slice ka f1.ins.length kc) f1.ins.length f1.cs (by first|(simp[Act.eval];done)|simp[Act.eval,Act.put]) (O2.o.drew.alloc _) ⟨w2.heap.size,0,none⟩ 1 1 [.int .i64 0,.string ⟨#[]⟩,.string ⟨#[]⟩,.slice none 0 0] (by first|(simp[Act.eval];done)|simp[Act.eval,Act.put]) rfl (Vu _ _ _ _ _ _) (by simp[Value.oneCell']) Ao oo Al ?_;intro v4 w4 hown4 dS oh;obtain⟨gv,vc,e4⟩:=Gu hown4;subst e4;have alx:w4.heap[g]?=w2.heap[g]?:=(dS.block g Al hap).trans (Below.heap_alloc _ _ _ hgb.2);have anu:w4.cell? ⟨g,L.length*5+4,none⟩=some (.slice ka f1.ins.length kc):=(World.cell?_of_block (w:=w2) (a:=⟨g,L.length*5+4,none⟩) alx).trans hf;have anv:w4.frozen? ⟨g,L.length*5+4,none⟩=false:=(World.frozen?_of_block (w:=w2) (a:=⟨g,L.length*5+4,none⟩) alx).trans hz4;have adk:¬gv=g:=(fun e=>by subst e;rcases oh with e2|e2;exact hap e2;(simp[Value.ownBlock]at e2;omega));have aly:¬g=gv:=(fun e=>adk e.symm);obtain⟨e0,e1,e2,e3⟩:=Qv hown4 HCL.o;have k0:=hown4.frozenAt (f1.ins.length*4);have k1:=hown4.frozenAt (f1.ins.length*4+1);have k2:=hown4.frozenAt (f1.ins.length*4+2);have k3:=hown4.frozenAt (f1.ins.length*4+3))
 all_goals
  have HB4:=agC.o _ _ _ _ hown4 dS oh;have FZ:=put_comm w4 (g:=g) (gv:=gv) (o:=L.length*5+4) (a0:=f1.ins.length*4) (a1:=f1.ins.length*4+1) (a2:=f1.ins.length*4+2) (a3:=f1.ins.length*4+3) adk (.slice (some ⟨gv,0,none⟩) (f1.ins.length+1) vc) (.int .i64 f2.tok.kind) (.string f2.tok.word) (.string f2.tok.unit) (.slice a2 f2.ins.length c2);obtain⟨W5,hW5⟩:∃W5,(((((w4.setCell ⟨g,L.length*5+4,none⟩ (.slice (some ⟨gv,0,none⟩) (f1.ins.length+1) vc)).setCell ⟨gv,f1.ins.length*4,none⟩ (.int .i64 f2.tok.kind)).setCell ⟨gv,f1.ins.length*4+1,none⟩ (.string f2.tok.word)).setCell ⟨gv,f1.ins.length*4+2,none⟩ (.string f2.tok.unit)).setCell ⟨gv,f1.ins.length*4+3,none⟩ (.slice a2 f2.ins.length c2))=W5:=⟨_,rfl⟩;rw[hW5]at HB4 FZ;first
  |rw[hW5]
  |rw[FZ]
  clear FZ hW5 hown4 dS oh e0 e1 e2 e3 k0 k1 k2 k3;obtain⟨v',f,e5,h5,h6,h7,h8⟩:=HB4;have H5:=hid h5;clear h5;subst e5;go_wp2_with fail;go_ret;exact⟨_,f,rfl,H5.o,h6,h7,h8⟩
end Go.Proofs.YtlliliddljkbfaaGreat
namespace Go.Proofs.YtlliliddljkbfaaGreat
open Go.Proofs.Tryz (prog)
open Go.RowKit Go.Conc Sp
theorem Turn.upon{c:Nat}{w wr w':World}(h:Turn c w wr)(hb:Below w.heap.size wr w'):Turn c w w':=⟨hb.os.trans h.os,hb.tape.trans h.tape,hb.output.trans h.output,Nat.le_trans h.size hb.size,fun k hk hc=>(hb.block k hk).trans (h.block k hk hc)⟩
theorem Turn.setChan{c:Nat}{w wr:World}(h:Turn c w wr)(cap:Nat)(buf:Array Value)(cl:Bool)(s r:Nat)(tm:Bool):Turn c w (wr.setChan c cap buf cl s r tm):=⟨h.os,h.tape,h.output,by rw[size_setChan];exact h.size,fun k hk hc=>by rw[jQ _ _ _ _ _ _ _ _ hc];exact h.block k hk hc⟩
theorem vF.first(w:World):vF w.heap.size (w.alloc (.cells #[.int .i64 0,.string ⟨#[]⟩,.string ⟨#[]⟩,.string ⟨#[]⟩,.slice none 0 0] 195)) (.slice (some ⟨w.heap.size,0,none⟩) 1 1) [⟨Tok.k 0,[],.slice none 0 0,[]⟩]:=by
 refine⟨⟨rfl,.inr ⟨w.heap.size,1,_,rfl,Nat.le_refl _,heap_alloc_new w _,Nat.le_refl _,by unfold maxLen;omega,rfl,?_⟩⟩,fun f hf=>?_,fun f hf=>?_,fun f hf=>?_,by simp⟩
 .rfl
 .rw[List.mem_singleton.1 hf];exact World.ownsRow_nil _ _ _ _
 .rw[List.mem_singleton.1 hf];rfl
 .rw[List.mem_singleton.1 hf];exact⟨by decide,by decide,fun e=>absurd e (by decide),fun e=>absurd e (by decide),fun e=>absurd e (by decide),fun e=>absurd e (by decide)⟩
theorem amP(w:World)(a b c d e:Value)(t:TypeId):∀j u,[a,b,c,d,e][j]?=some u->(w.alloc (.cells #[a,b,c,d,e] t)).cell? ((⟨w.heap.size,0,none⟩:Addr).add j)=some u:=by intro j u hu;rw[Addr.add_lit,Nat.zero_add,World.cell?_alloc_mark,<-hu];simp
def sumF(L:List Fr):Nat:=(L.map (fun f=>f.ins.length+1)).sum
theorem iC(L:List Fr)(f:Fr):sumF (L++[f])=sumF L+(f.ins.length+1):=by simp[sumF]
theorem Jw(L:List Fr):L.length<=sumF L:=by
 induction L with
 |nil=>simp[sumF]
 |cons f r ih=>simp[sumF]at ih⊢;omega
structure LW(w:World)(all:List Tok)(c cap n:Nat)(rest:List Tok)(r:Nat)(v:Value)(L:List Fr)(d:Nat)(wr:World):Prop where
 stk:vF w.heap.size wr v L
 opens:lQ (mM L)
 fin:fin (mM L) rest=nodes all
 depth:d=dst (mM L)
 tot:sumF L+rest.length<=all.length+1
 d6:d<=all.length
 chan:wr.heap[c]?=some (.chan cap (rest.map bF).toArray true n r false)
 turn:Turn c w wr
 sub:∀t∈rest,t∈all
theorem LW.snoc{w:World}{all:List Tok}{c cap n:Nat}{rest:List Tok}{r:Nat}{v:Value}{L:List Fr}{d:Nat}{wr:World}(h:LW w all c cap n rest r v L d wr):∃L0 f,L=L0++[f]:=by
 rcases List.eq_nil_or_concat L with e|⟨l,x,e⟩
 .exact absurd (by rw[e];rfl) h.opens.ne
 .exact⟨l,x,by simpa using e⟩
section
variable {w:World} {all:List Tok} {c cap n:Nat} {rest rest':List Tok} {r r':Nat} {v v':Value} {L:List Fr} {f f1 f2:Fr} {d:Nat} {wr wr':World} {t:Tok}
theorem LW.close(h:LW w all c cap n rest r v (L++[f1]++[f2]) d wr)(adl:vF w.heap.size wr' v' (L++[f]))(ht:f.tok=f1.tok)(hi:f.ins=f1.ins++[.mk f2.tok f2.ins])
  (hr:rest'=rest/\rest=[]\/∃t,rest=t::rest'/\au t (closing f2.tok)=true) (hc:wr'.heap[c]?=some (.chan cap (rest'.map bF).toArray true n r' false)) (hb:Turn c w wr'):LW w all c cap n rest' r' v' (L++[f]) d wr':=by
 have hO:=h.opens;have hF:=h.fin;have hD:=h.depth;have hT:=h.tot;rw[dG,dG]at hO hF hD;rw[iC,iC]at hT;have hp:=hO.pop (j:=f1.ins++[.mk f2.tok f2.ins]);refine⟨adl,?_,?_,?_,?_,h.d6,hc,hb,?_⟩
 .rw[dG,ht,hi];exact hp.2
 .rw[dG,ht,hi,<-hF];rcases hr with⟨rfl,rfl⟩|⟨t,rfl,hs⟩
  .rw[afV]
  .rw[Z7 _ _ _ _ _ hs hp.1]
 .rw[dG,ht,hi,Z8 _ _ _ _ _ hp.1];exact hD
 .rw[iC,hi];rcases hr with⟨rfl,rfl⟩|⟨t,rfl,hs⟩
  .simp at hT⊢;omega
  .simp at hT⊢;omega
 .rcases hr with⟨rfl,rfl⟩|⟨t,rfl,hs⟩
  .exact h.sub
  .exact fun q hq=>h.sub q (by simp[hq])
theorem LW.opened(h:LW w all c cap n (t::rest) r v L d wr)(adl:vF w.heap.size wr' v' (L++[⟨t,[],.slice none 0 0,[]⟩]))(ht:closing t≠aA)(hc:wr'.heap[c]?=some (.chan cap (rest.map bF).toArray true n r' false))(hb:Turn c w wr'):LW w all c cap n rest r' v' (L++[⟨t,[],.slice none 0 0,[]⟩]) (max d L.length) wr':=by
 have hO:=h.opens;have hT:=h.tot;have hl:=Jw L;refine⟨adl,?_,?_,?_,?_,?_,hc,hb,fun q hq=>h.sub q (by simp[hq])⟩
 .rw[dG];exact hO.push ht []
 .rw[dG,<-h.fin];obtain⟨⟨t0,i0⟩,R,e⟩:∃x R,mM L=x::R:=by
   cases hq:mM L with
   |nil=>exact absurd hq hO.ne
   |cons x R=>exact⟨x,R,rfl⟩
  rw[e]at hO⊢;exact acd ht t0 i0 R rest hO
 .rw[dG,acg,QE,<-h.depth]
 .rw[iC];simp at hT⊢;omega
 .have:=h.d6;simp at hT;omega
theorem LW.leaf(h:LW w all c cap n (t::rest) r v (L++[f1]) d wr)(adl:vF w.heap.size wr' v' (L++[f]))(hf:f.tok=f1.tok)(hi:f.ins=f1.ins++[.mk t []])(ht:closing t=aA)(hn:¬(closing f1.tok≠aA/\au t (closing f1.tok)=true))
  (hc:wr'.heap[c]?=some (.chan cap (rest.map bF).toArray true n r' false)) (hb:Turn c w wr'):LW w all c cap n rest r' v' (L++[f]) d wr':=by
 have hO:=h.opens;have hF:=h.fin;have hD:=h.depth;have hT:=h.tot;rw[dG]at hO hF hD;rw[iC]at hT;refine⟨adl,?_,?_,?_,?_,h.d6,hc,hb,fun q hq=>h.sub q (by simp[hq])⟩
 .rw[dG,hf,hi];exact lQ.same hO
 .rw[dG,hf,hi,<-hF];exact ace ht _ _ _ _ hn
 .rw[dG,hf,hi,acf ht];exact hD
 .rw[iC,hi];simp at hT⊢;omega
end
set_option linter.unusedSimpArgs false in
theorem adn(all:List Tok)(c cap n r0:Nat)(w:World)(hch:w.heap[c]?=some (.chan cap (all.map bF).toArray true n r0 false))(h6:all.length<=600)(hok:∀t∈all,dI t):
  Calls prog 67 #[.chan (some c)] w fun e w'=>∃v,e=.returned (.tuple #[v,.int .i64 (depth (nodes all):Int)])/\Sl (oD w.heap.size w') w' v (nodes all)/\Turn c w w':=by
 have ado:c<w.heap.size:=(Ax hch);have VJ:=hid hok;have I0:Hid (LW w all c cap n all r0 (.slice (some ⟨w.heap.size,0,none⟩) 1 1) [⟨Tok.k 0,[],.slice none 0 0,[]⟩] 0 (w.alloc (.cells #[.int .i64 0,.string ⟨#[]⟩,.string ⟨#[]⟩,.string ⟨#[]⟩,.slice none 0 0] 195))):=⟨vF.first w,rfl,Z9 all,rfl,by simp[sumF];omega,oo,by rw[Below.heap_alloc _ _ _ ado];exact hch,(Turn.refl c w).alloc _,fun _ h=>h⟩
 clear hch hok;obtain⟨iT,hiT⟩:=adi;have HI:=hid hiT;clear hiT;refine Dc Tryz.func67 rfl ?_;simp only[Tryz.ntmps67,List.size_toArray,List.length_cons,List.length_nil,Nat.reduceAdd,Nat.reduceSub,Array.replicate_succ,
   Array.replicate_zero,List.push_toArray,List.append_toArray,List.nil_append,List.cons_append]
 refine nN (jI ?_);go_wp2_with fail;refine nN (jI ?_);go_wp2_with fail;refine nN ?_;refine nN (jI ?_);go_wp2_with fail;refine Et ?_
 refine RI (fun m a wr=>∃(rest:List Tok) (v:Value) (L:List Fr) (d r:Nat) (u5 u6 u7 u11 u12 u13 u14 u15 u16 u17 u18 u19 u20 u21 u22 u23 u24 u25 u26 u27 u28 u29 u30 u31 u32 u33 u34 u35 u36 u37 u38 u39 u40 u41 u42 u43 u44 u45 u46 u47 u48 u49 u50 u51 u52 u53 u54 u55 u56 u57 u58 u59 u60:Value),a=⟨#[.chan (some c),undef,.slice none 0 0,.int .i64 (d:Int),v,u5,u6,u7,.agg #[.int .i64 0,.string ⟨#[]⟩,.string ⟨#[]⟩,.string ⟨#[]⟩,.slice none 0 0],.slice (some ⟨w.heap.size,0,none⟩) 1 1,.chan (some c),u11,u12,u13,u14,u15,u16,u17,u18,u19,u20,u21,u22,u23,u24,u25,u26,u27,u28,u29,u30,u31,u32,u33,u34,u35,u36,u37,u38,u39,u40,u41,u42,u43,u44,u45,u46,u47,u48,u49,u50,u51,u52,u53,u54,u55,u56,u57,u58,u59,u60,undef,undef,undef,undef,undef,undef,undef,undef,undef,undef],[]⟩/\rest.length=m/\LW w all c cap n rest r v L d wr) all.length
  ⟨all,_,_,0,r0,_,_,_,_,_,_,_,_,_,_,_,_,_,_,_,_,_,_,_,_,_,_,_,_,_,_,_,_,_,_,_,_,_,_,_,_,_,_,_,_,_,_,_,_,_,_,_,_,_,_,_,_,_,rfl,rfl,I0.o⟩ ?_
 rintro gk _ wr ⟨rest,v,L,d,r,u5,u6,u7,u11,u12,u13,u14,u15,u16,u17,u18,u19,u20,u21,u22,u23,u24,u25,u26,u27,u28,u29,u30,u31,u32,u33,u34,u35,u36,u37,u38,u39,u40,u41,u42,u43,u44,u45,u46,u47,u48,u49,u50,u51,u52,u53,u54,u55,u56,u57,u58,u59,u60,rfl,hlen,hI⟩;obtain⟨L,f,rfl⟩:=hI.snoc;obtain⟨g,vc,rfl⟩:=hI.stk.form;have HI2:=hid hI;have hLf:L.length+f.ins.length+rest.length<=600:=by have:=hI.tot;rw[iC]at this;have:=Jw L;omega
 have hd6:d<=600:=by have:=hI.d6;omega
 have HLen:=hid hlen;clear hI hlen I0;refine nN ?_;refine I9 ?_;show Left _ _ _ [0,1] _ _;cases rest with
 |nil=>
  refine Ja (c:=c) (cap:=cap) (s:=n) (r:=r) (z:=.agg #[.int .i64 0,.string ⟨#[]⟩,.string ⟨#[]⟩]) (tm:=false) (w1:=wr) rfl rfl (by simp[go_sem,rcase]) HI2.o.chan ?_;refine AQ (v:=.bool false) (w':=wr) rfl rfl (by simp[go_sem]) ?_;refine left_nil ?_
  change YJ _ _ _ ⟨#[.chan (some c),undef,.slice none 0 0,.int .i64 (d:Int),.slice (some ⟨g,0,none⟩) (L.length+1) vc,u5,u6,u7,.agg #[.int .i64 0,.string ⟨#[]⟩,.string ⟨#[]⟩,.string ⟨#[]⟩,.slice none 0 0],.slice (some ⟨w.heap.size,0,none⟩) 1 1,.chan (some c),.tuple #[.agg #[.int .i64 0,.string ⟨#[]⟩,.string ⟨#[]⟩],.bool false],.bool false,u13,u14,u15,u16,u17,u18,u19,u20,u21,u22,u23,u24,u25,u26,u27,u28,u29,u30,u31,u32,u33,u34,u35,u36,u37,u38,u39,u40,u41,u42,u43,u44,u45,u46,u47,u48,u49,u50,u51,u52,u53,u54,u55,u56,u57,u58,u59,u60,undef,undef,undef,undef,undef,undef,undef,undef,undef,undef],[]⟩ wr;refine jI ?_;go_wp2_with fail;refine jI ?_;clear HLen;go_wp2_with fail
  go_loopg[4] L.length (fun gg v4 wq=>∃(L:List Fr) (f:Fr) (g vc:Nat),v4=.slice (some ⟨g,0,none⟩) (L.length+1) vc/\gg=L.length/\L.length+f.ins.length<=600/\Aside (LW w all c cap n [] r (.slice (some ⟨g,0,none⟩) (L.length+1) vc) (L++[f]) d wq));case atStart=>exact⟨L,f,g,vc,rfl,rfl,by simpa using hLf,HI2.o⟩
  case round=>
   obtain⟨L1,f1,g1,vc1,rfl,rfl,amQ,hA⟩:=hrel;have HI3:Hid (LW w all c cap n [] r (.slice (some ⟨g1,0,none⟩) (L1.length+1) vc1) (L1++[f1]) d wr):=hA.o;clear hA HI2;rcases List.eq_nil_or_concat L1 with e|⟨L2,f2,e⟩
   .subst e;have HF:Hid (nodes all=f1.ins):=by
     show _=_;rw[<-HI3.o.fin];show fin (mM ([]++[f1])) []=_;rw[dG];show fin [(f1.tok,f1.ins)] []=_;rw[y8,jB];simp
    have HD:Hid (d=depth f1.ins):=by show _=_;rw[HI3.o.depth,dG];simp[mM,dst]
    obtain⟨_,hsl⟩:=HI3.o.stk.drop oo rfl;have HSL:Hid (Sl (oD w.heap.size wr) wr f1.v f1.ins):=hsl.keep (fun _ hg=>⟨hg.1,hg.2.1⟩) fun _ _=>rfl;have c4:=HI3.o.stk.last rfl 4 _ rfl;have hT:=hid HI3.o.turn;simp only[List.length_nil,Nat.zero_mul,Nat.zero_add]at c4;clear hsl HI3;simp only[List.length_nil,Nat.zero_add];go_wp2_with fail;go_ret2
    exact⟨f1.v,by rw[HF.o,HD.o];rfl,by rw[HF.o];exact HSL.o,hT.o⟩
   .rw[List.concat_eq_append]at e;subst e;have hl2:(L2++[f2]).length=L2.length+1:=by simp
    rw[hl2]at amQ HI3⊢;have h1l:(1:Int)<(L2.length:Int)+1+1:=oo;have hf2:f2.ins.length<=600:=by have:=HI3.o.tot;rw[iC,iC]at this;omega
    have hbs:=HI3.o.turn.size;clear hl2;go_wp2_with fail;refine(FK w.heap.size L2 f2 f1 _ wr HI3.o.stk oo hf2 oo hbs).mono ?_;rintro e w5 ⟨v5,f5,rfl,hst5,ht5,hi5,hb5⟩;have HI5:Hid (LW w all c cap n [] r v5 (L2++[f5]) d w5):=HI3.o.close hst5 ht5 hi5 (.inl ⟨rfl,rfl⟩) (by rw[hb5.block c ado];exact HI3.o.chan) (HI3.o.turn.upon hb5);have hf5:L2.length+f5.ins.length<=600:=by have q1:=HI5.o.tot;rw[iC]at q1;have q2:=Jw L2;simp only[List.length_nil]at q1;omega
    obtain⟨g5,vc5,e5⟩:=hst5.form;subst e5;clear hst5 ht5 hi5 hb5 HI3;go_wp2_with fail;go_roundg L2.length;case measure=>simp
    case rel=>exact⟨L2,f5,g5,vc5,rfl,rfl,hf5,HI5.o⟩
 |cons t rest=>
  refine aax (c:=c) (cap:=cap) (s:=n) (r:=r) (closed:=true) (buf:=((t::rest).map bF).toArray) (z:=.agg #[.int .i64 0,.string ⟨#[]⟩,.string ⟨#[]⟩]) (tm:=false) (w1:=wr) rfl rfl (by simp[go_sem,rcase]) HI2.o.chan (by simp) ?_;have e1:((t::rest).map bF).toArray.getD 0 undef=.agg #[.int .i64 t.kind,.string t.word,.string t.unit]:=rfl;have e2:((t::rest).map bF).toArray.extract 1 ((t::rest).map bF).toArray.size=(rest.map bF).toArray:=by apply Array.ext';simp;exact List.take_of_length_le (by simp)
  rw[e1,e2];have HC3:Hid ((wr.setChan c cap (rest.map bF).toArray true n (r+1) false).heap[c]?=some (.chan cap (rest.map bF).toArray true n (r+1) false)):=heap_setChan _ _ _ _ _ _ _ _ (by have:=HI2.o.turn.size;omega);have HK3:Hid (vF w.heap.size (wr.setChan c cap (rest.map bF).toArray true n (r+1) false) (.slice (some ⟨g,0,none⟩) (L.length+1) vc) (L++[f])):=HI2.o.stk.keep (by rw[size_setChan];omega) fun k hk _=>jQ _ _ _ _ _ _ _ _ oo;have HT3:Hid (Turn c w (wr.setChan c cap (rest.map bF).toArray true n (r+1) false)):=HI2.o.turn.setChan _ _ _ _ _ _;generalize wr.setChan c cap (rest.map bF).toArray true n (r+1) false=wx at *;clear e1 e2;refine AQ (v:=.bool true) (w':=wx) rfl rfl (by simp[go_sem]) ?_;refine left_nil ?_
  change YJ _ _ _ ⟨#[.chan (some c),undef,.slice none 0 0,.int .i64 (d:Int),.slice (some ⟨g,0,none⟩) (L.length+1) vc,u5,u6,u7,.agg #[.int .i64 0,.string ⟨#[]⟩,.string ⟨#[]⟩,.string ⟨#[]⟩,.slice none 0 0],.slice (some ⟨w.heap.size,0,none⟩) 1 1,.chan (some c),.tuple #[.agg #[.int .i64 t.kind,.string t.word,.string t.unit],.bool true],.bool true,u13,u14,u15,u16,u17,u18,u19,u20,u21,u22,u23,u24,u25,u26,u27,u28,u29,u30,u31,u32,u33,u34,u35,u36,u37,u38,u39,u40,u41,u42,u43,u44,u45,u46,u47,u48,u49,u50,u51,u52,u53,u54,u55,u56,u57,u58,u59,u60,undef,undef,undef,undef,undef,undef,undef,undef,undef,undef],[]⟩ wx;refine jI ?_;simp only[List.length_cons]at hLf;have hws:=HT3.o.size
  have l0:∀j u,[Value.int .i64 t.kind,.string t.word,.string t.unit][j]?=some u->(wx.alloc (.cells #[.int .i64 t.kind,.string t.word,.string t.unit] 93)).cell? ⟨wx.heap.size,j,none⟩=some u:=by intro j u hu;rw[World.cell?_alloc_mark,<-hu];simp
  have L0:=hid l0;have HK4:Hid (vF w.heap.size (wx.alloc (.cells #[.int .i64 t.kind,.string t.word,.string t.unit] 93)) (.slice (some ⟨g,0,none⟩) (L.length+1) vc) (L++[f])):=HK3.o.keep (by simp) fun k _ hk=>Below.heap_alloc _ _ _ hk;have HT4:Hid (Turn c w (wx.alloc (.cells #[.int .i64 t.kind,.string t.word,.string t.unit] 93))):=HT3.o.alloc _;have FZ:Hid ((wx.alloc (.cells #[.int .i64 t.kind,.string t.word,.string t.unit] 93)).heap[c]?=some (.chan cap (rest.map bF).toArray true n (r+1) false)):=by show _=_;rw[Below.heap_alloc _ _ _ oo];exact HC3.o
  have hz4:wx.heap.size<(wx.alloc (.cells #[.int .i64 t.kind,.string t.word,.string t.unit] 93)).heap.size:=by simp
  have hgt:g<wx.heap.size:=(HK3.o.row.lt g rfl).2;have HFG:Hid (∀k,f.v.ownBlock=some k->k<wx.heap.size):=fun k hk=>((HK3.o.own f (by simp)).lt k hk).2;clear l0 HC3 HK3 HT3;go_upto_region 6 with fail
  generalize wx.alloc (.cells #[.int .i64 t.kind,.string t.word,.string t.unit] 93)=w2 at *;generalize wx.heap.size=gt at *;have t0:=L0.o 0 _ rfl;have t1:=L0.o 1 _ rfl;have t2:=L0.o 2 _ rfl;clear L0;go_wp2_with fail;refine pmb (G9 t _) fun w3 hb3=>?_;have hw2:=HT4.o.size;have HK5:Hid (vF w.heap.size w3 (.slice (some ⟨g,0,none⟩) (L.length+1) vc) (L++[f])):=HK4.o.keep hb3.size fun k _ hk=>hb3.block k hk;have HT5:=hid (HT4.o.upon (hb3.mono hw2));have xg:Hid (w3.heap[c]?=some (.chan cap (rest.map bF).toArray true n (r+1) false)):=by show _=_;rw[hb3.block c oo];exact FZ.o
  have T0:w3.cell? ⟨gt,0,none⟩=some (.int .i64 t.kind):=(hb3.cell (by exact hz4)).trans t0;have T1:w3.cell? ⟨gt,1,none⟩=some (.string t.word):=(hb3.cell (by exact hz4)).trans t1;have T2:w3.cell? ⟨gt,2,none⟩=some (.string t.unit):=(hb3.cell (by exact hz4)).trans t2;have hz5:gt<w3.heap.size:=Nat.lt_of_lt_of_le hz4 hb3.size;have ajv:=hid (VJ.o t (HI2.o.sub t (by simp)));clear hb3 HK4 HT4 FZ t0 t1 t2 hz4;cases hcl:(closing t).toList==([]:List UInt8)
  .have hcl':closing t≠aA:=by
    rw[ay]at hcl;simpa[aA]using hcl
   have HCL:=hid hcl';clear hcl';obtain⟨xs,Hxs⟩:∃xs,Hid ((L++[f]).flatMap Fr.cells=xs):=⟨_,hid rfl⟩;have ajw:Hid (w3.ownsRow w.heap.size 195 5 (.slice (some ⟨g,0,none⟩) (L.length+1) vc) (L.length+1) xs):=by have:=HK5.o.row;rw[List.length_append,Hxs.o]at this;exact this
   have hw3:=HT5.o.size;go_wp2_with(at_builtin;go_must(refine wpList_append_own_at _ rfl _ _ 196 rfl w.heap.size 195 iT (.agg #[.int .i64 0,.string ⟨#[]⟩,.string ⟨#[]⟩,.string ⟨#[]⟩,.slice none 0 0]) 5 80 Tryz.underlying196 HI.o.1 HI.o.2.1 HI.o.2.2.1 HI.o.2.2.2 rfl oo (.slice (some ⟨g,0,none⟩) (L.length+1) vc) (L.length+1) xs rfl (ajw.o.alloc _) ⟨w3.heap.size,0,none⟩ 1 1 [.int .i64 t.kind,.string t.word,.string t.unit,.string (closing t),.slice none 0 0] rfl rfl (amP _ _ _ _ _ _ _) (by simp[Value.oneCell']) (by unfold maxLen;omega) oo (by simp;omega) ?_));intro v4 w4 hown4 dS _ oh;have hgl:∀rr,Value.ownBlock (.slice (some ⟨g,0,none⟩) (L.length+1) vc)=some rr->w.heap.size<=rr:=fun rr hr=>(ajw.o.lt rr hr).1
   have WV:Hid (vF w.heap.size w4 v4 (L++[f]++[⟨t,[],.slice none 0 0,[]⟩])):=HK5.o.push t ajv.o (by rw[List.length_append,Hxs.o];exact hown4) (by have:=dS.size;simp at this;omega) (fun k hk h1=>by rw[dS.block k (by simp;omega) h1,Below.heap_alloc _ _ _ hk]) (by rcases oh with e|e;exact .inl e;exact .inr ⟨_,e,by simp⟩);have HB6:Below w.heap.size w3 w4:=(As.alloc hw3 _).grown dS (by simp;omega) hgl;have HI6:Hid (LW w all c cap n rest (r+1) v4 (L++[f]++[⟨t,[],.slice none 0 0,[]⟩]) (max d (L.length+1)) w4):=by have:=HI2.o.opened (r':=r+1) WV.o HCL.o (by rw[HB6.block c ado];exact xg.o) (HT5.o.upon HB6);rwa[List.length_append]at this
   obtain⟨g4,vc4,e4⟩:=Gu hown4;subst e4;clear hown4 dS oh HB6 WV HK5 HT5 xg HI2 ajw;have SC:rest.length<gk:=by have:=HLen.o;simp at this;omega
   have em:max (d:Int) ((L.length:Int)+1)=((max d (L.length+1):Nat):Int):=oo;have EM:=hid em;clear em;go_wp2_with fail;rw[EM.o];exact⟨rest.length,SC,rest,_,_,max d (L.length+1),r+1,_,_,_,_,_,_,_,_,_,_,_,_,_,_,_,_,_,_,_,_,_,_,_,_,_,_,_,_,_,_,_,_,_,_,_,_,_,_,_,_,_,_,_,_,_,_,_,_,_,_,_,_,_,rfl,rfl,HI6.o⟩
  .have hcl':closing t=aA:=by
    rw[ay]at hcl;simpa[aA]using hcl
   have HCL:=hid hcl';clear hcl';have hw3:=HT5.o.size;have c3:w3.cell? ⟨g,L.length*5+3,none⟩=some (.string (closing f.tok)):=HK5.o.last rfl 3 _ rfl;obtain⟨b,Hb⟩:∃b,Hid ((t.kind==15&&(t.word.toList==(closing f.tok).toList))=b):=⟨_,hid rfl⟩;have q1:(0:Int)<=(L.length:Int):=oo;have q2:(L.length:Int)<(L.length:Int)+1:=oo;have SC:rest.length<gk:=by have:=HLen.o;simp at this;omega
   go_upto_region 11 with fail
   go_cut [45] from 11 to 60 (fun s45 wx=>s45=.bool b/\∃nq,wx=w3.drewN nq);case first=>
    cases hk:(t.kind==15)
    .have hb:b=false:=by rw[<-Hb.o,hk];rfl
     subst hb;go_quiet (fail)
     go_wp2_with fail;go_meet
     exact⟨rfl,_,rfl⟩
    .have hb:b=(t.word.toList==(closing f.tok).toList):=by rw[<-Hb.o,hk];rfl
     subst hb;go_quiet (fail)
     go_wp2_with fail;go_meet
     exact⟨rfl,_,rfl⟩
   case rest=>
   obtain⟨rfl,nq,rfl⟩:=hcut;have amR:gt<(w3.drewN nq).heap.size:=hz5;have WV:Hid (vF w.heap.size (w3.drewN nq) (.slice (some ⟨g,0,none⟩) (L.length+1) vc) (L++[f])):=HK5.o.keep nl fun _ _ _=>rfl;have HT6:Hid (Turn c w (w3.drewN nq)):=HT5.o.drewN nq;have OA:Hid ((w3.drewN nq).heap[c]?=some (.chan cap (rest.map bF).toArray true n (r+1) false)):=xg.o;have s0:(w3.drewN nq).cell? ⟨gt,0,none⟩=some (.int .i64 t.kind):=T0;have s1:(w3.drewN nq).cell? ⟨gt,1,none⟩=some (.string t.word):=T1;have s2:(w3.drewN nq).cell? ⟨gt,2,none⟩=some (.string t.unit):=T2;have hw6:w.heap.size<=(w3.drewN nq).heap.size:=hw3;generalize w3.drewN nq=w6 at *;clear HK5 HT5 xg T0 T1 T2 c3 hz5 hw3;cases b
   .have hb:=Hb.o;have HN:Hid (¬(closing f.tok≠aA/\au t (closing f.tok)=true)):=by
     intro hh;have h2:=hh.2;unfold au at h2;simp only[Bool.and_eq_true,decide_eq_true_eq]at h2;have h3:=bytes_beq t.word (closing f.tok);rw[h2.2]at h3;rw[h2.1,h2.2]at hb;simp at h3 hb
    clear hb Hb;obtain⟨iV,hiV⟩:=SA;have HV:=hid hiV;clear hiV;have O6:=hid (WV.o.own f (by simp));obtain⟨ka,kc,e1⟩:=kQ O6.o;have hap:some g≠f.v.ownBlock:=fun e2=>WV.o.apart (f:=f) (by simp) g rfl e2.symm;have hgb:=WV.o.row.lt g rfl;have hf:w6.cell? ⟨g,L.length*5+4,none⟩=some f.v:=WV.o.last rfl 4 _ rfl;have hz4:w6.frozen? ⟨g,L.length*5+4,none⟩=false:=by have hr:=WV.o.row;rw[List.length_append]at hr;exact hr.frozenAt _
    have agC:Hid (∀(gv vcv:Nat) (X:Obj) (w8:World),w8.ownsRow w.heap.size 199 4 (.slice (some ⟨gv,0,none⟩) (f.ins.length+1) vcv) (f.ins.length+1) (f.cs++[.int .i64 0,.string ⟨#[]⟩,.string ⟨#[]⟩,.slice none 0 0])->(w6.drew.alloc X).grownBy w8 f.v.ownBlock->(some gv=f.v.ownBlock\/some gv=some (w6.drew.alloc X).heap.size)->LW w all c cap n rest (r+1) (.slice (some ⟨g,0,none⟩) (L.length+1) vc) (L++[⟨f.tok,f.ins++[.mk t []],.slice (some ⟨gv,0,none⟩) (f.ins.length+1) vcv,f.cs++[.int .i64 t.kind,.string t.word,.string t.unit,.slice none 0 0]⟩]) d (((((w8.setCell ⟨g,L.length*5+4,none⟩ (.slice (some ⟨gv,0,none⟩) (f.ins.length+1) vcv)).setCell ⟨gv,f.ins.length*4,none⟩ (.int .i64 t.kind)).setCell ⟨gv,f.ins.length*4+1,none⟩ (.string t.word)).setCell ⟨gv,f.ins.length*4+2,none⟩ (.string t.unit)).setCell ⟨gv,f.ins.length*4+3,none⟩ (.slice none 0 0))):=by
     intro gv vcv X w8 hown hgr hat;have OO:w.heap.size<=gv:=(hown.lt gv rfl).1;have hlo:∀rr,f.v.ownBlock=some rr->w.heap.size<=rr:=fun rr hr=>(O6.o.lt rr hr).1;have hst:=WV.o.put (W:=w6.drew.alloc X) rfl (.mk t []) _ ⟨Sl.nil _ _,ajv.o⟩ (by simp) (fun k hk=>Below.heap_alloc _ _ _ hk) hown hgr hat;have hb:Below w.heap.size w6 (((((w8.setCell ⟨g,L.length*5+4,none⟩ (.slice (some ⟨gv,0,none⟩) (f.ins.length+1) vcv)).setCell ⟨gv,f.ins.length*4,none⟩ (.int .i64 t.kind)).setCell ⟨gv,f.ins.length*4+1,none⟩ (.string t.word)).setCell ⟨gv,f.ins.length*4+2,none⟩ (.string t.unit)).setCell ⟨gv,f.ins.length*4+3,none⟩ (.slice none 0 0)):=(((((((As.drew.alloc hw6 X).grown hgr (by simp;omega) hlo).setCell hgb.1 _).setCell OO _).setCell OO _).setCell OO _).setCell OO _)
     exact HI2.o.leaf hst rfl rfl HCL.o HN.o (by rw[hb.block c ado];exact OA.o) (HT6.o.upon hb)
    rw[e1]at hf O6 hap HFG agC;have KS:Hid (∀(W:World) (k o:Nat) (u:Value),k≠gt->(fun wx=>wx.cell? ⟨gt,0,none⟩=some (.int .i64 t.kind)/\wx.cell? ⟨gt,1,none⟩=some (.string t.word)/\wx.cell? ⟨gt,2,none⟩=some (.string t.unit)) W->(fun wx=>wx.cell? ⟨gt,0,none⟩=some (.int .i64 t.kind)/\wx.cell? ⟨gt,1,none⟩=some (.string t.word)/\wx.cell? ⟨gt,2,none⟩=some (.string t.unit)) (W.setCell ⟨k,o,none⟩ u)):=by intro W k o u hk hS;have e:∀j,(W.setCell ⟨k,o,none⟩ u).cell? ⟨gt,j,none⟩=W.cell? ⟨gt,j,none⟩:=fun j=>World.cell?_of_block (w:=W) (Below.heap_setCell _ _ _ _ (by show gt≠k;exact fun e=>hk e.symm));exact⟨(e 0).trans hS.1,(e 1).trans hS.2.1,(e 2).trans hS.2.2⟩
    have r2:(f.ins.length:Int)<(f.ins.length:Int)+1:=oo;have amS:=hid O6.o.1;have sS:(fun wx=>wx.cell? ⟨gt,0,none⟩=some (.int .i64 t.kind)/\wx.cell? ⟨gt,1,none⟩=some (.string t.word)/\wx.cell? ⟨gt,2,none⟩=some (.string t.unit)) w6.drew:=⟨s0,s1,s2⟩;have HSA:(fun wx=>wx.cell? ⟨gt,0,none⟩=some (.int .i64 t.kind)/\wx.cell? ⟨gt,1,none⟩=some (.string t.word)/\wx.cell? ⟨gt,2,none⟩=some (.string t.unit)) (w6.drew.alloc (.cells #[.int .i64 0,.string ⟨#[]⟩,.string ⟨#[]⟩,.slice none 0 0] 199)):=by have e:∀j,(w6.drew.alloc (.cells #[.int .i64 0,.string ⟨#[]⟩,.string ⟨#[]⟩,.slice none 0 0] 199)).cell? ⟨gt,j,none⟩=w6.drew.cell? ⟨gt,j,none⟩:=fun j=>World.cell?_of_block (w:=w6.drew) (Below.heap_alloc _ _ _ amR);exact⟨(e 0).trans s0,(e 1).trans s1,(e 2).trans s2⟩
    have hfA:(w6.drew.alloc (.cells #[.int .i64 0,.string ⟨#[]⟩,.string ⟨#[]⟩,.slice none 0 0] 199)).cell? ⟨g,L.length*5+4,none⟩=some (.slice ka f.ins.length kc):=(World.cell?_of_block (w:=w6.drew) (a:=⟨g,L.length*5+4,none⟩) (Below.heap_alloc _ _ _ hgb.2)).trans hf;clear HI2 WV HT6 OA s0 s1 s2;go_wp2_with fail;refine wp_region_held_drew (S:=(fun wx=>wx.cell? ⟨gt,0,none⟩=some (.int .i64 t.kind)/\wx.cell? ⟨gt,1,none⟩=some (.string t.word)/\wx.cell? ⟨gt,2,none⟩=some (.string t.unit))) (by kernel_rfl) sS (fun _=>?_);refine Qp 0 rfl sS (fun _ _=>gs) ?_;refine Qp 1 rfl sS (fun _ _=>gs) ?_;refine Qp 2 rfl sS (fun _ _=>gs) ?_;refine Qp 3 rfl sS (fun _ _=>gs) ?_
    refine Qp 5 rfl sS (by intro w hSw;obtain⟨z0,z1,z2⟩:=hSw;exact gs) ?_;refine Qp 6 rfl sS (fun _ _=>gs) ?_;refine wpAnyH_ready (rs:=[4,8]) (by kernel_rfl) (by simp) ?_;refine AllReadyH.cons rfl (fun K hK=>?_) (AllReadyH.cons rfl (fun K hK=>?_) AllReadyH.nil);focus
     go_simp;refine hK.o _ _ sS (fun _=>?_);clear hK K;refine Qp 7 rfl sS (fun _ _=>gs) ?_;refine iW 8 fun K hK=>?_;go_simp;refine hK.o _ _ (HSA) (fun _=>?_);clear hK K
    rotate_left;focus
     go_simp;refine hK.o _ _ HSA (fun _=>?_);clear hK K;refine iW 4 fun K hK=>?_;go_simp;refine hK.o _ _ (HSA) (fun _=>?_);clear hK K;refine Qp 7 rfl HSA (fun _ _=>gs) ?_
    rotate_left;all_goals
     refine wpAnyH_ready (rs:=[9]) (by kernel_rfl) (by simp) ?_;refine AllReadyH.cons rfl (fun K hK=>?_) AllReadyH.nil;refine qY rfl (.tmp 23) (.tmp 27) 128 rfl w.heap.size 199 iV (.agg #[.int .i64 0,.string ⟨#[]⟩,.string ⟨#[]⟩,.slice none 0 0]) 4 64 Tryz.underlying128 HV.o.1 HV.o.2.1 HV.o.2.2.1 HV.o.2.2.2 rfl oo (.slice ka f.ins.length kc) f.ins.length f.cs (by simp[Act.eval]) (O6.o.drew.alloc _) ⟨w6.heap.size,0,none⟩ 1 1 [.int .i64 0,.string ⟨#[]⟩,.string ⟨#[]⟩,.slice none 0 0] (by simp[Act.eval]) rfl (Vu _ _ _ _ _ _) (by simp[Value.oneCell']) (by unfold maxLen;omega) oo (by simp;omega) ?_;intro v8 w8 eP lD agD;obtain⟨gv,vcv,e8⟩:=Gu eP;subst e8;have alz:w8.heap[g]?=w6.heap[g]?:=(lD.block g (by simp;omega) hap).trans (Below.heap_alloc _ _ _ hgb.2)
     have anw:w8.cell? ⟨g,L.length*5+4,none⟩=some (.slice ka f.ins.length kc):=(World.cell?_of_block (w:=w6) (a:=⟨g,L.length*5+4,none⟩) alz).trans hf;have anx:w8.frozen? ⟨g,L.length*5+4,none⟩=false:=(World.frozen?_of_block (w:=w6) (a:=⟨g,L.length*5+4,none⟩) alz).trans hz4;have adk:¬gv=g:=by
      rintro rfl;rcases agD with e2|e2
      .exact hap e2
      .simp[Value.ownBlock]at e2;omega
     have aly:¬g=gv:=fun e=>adk e.symm;have F8:gv≠gt:=by
      rintro rfl;rcases agD with e2|e2
      .have:=HFG.o gv e2.symm;omega
      .simp[Value.ownBlock]at e2;omega
     have ajx:g≠gt:=oo;obtain⟨x0,x1,x2,x3⟩:=Qv eP amS.o;have k0:=eP.frozenAt (f.ins.length*4);have k1:=eP.frozenAt (f.ins.length*4+1);have k2:=eP.frozenAt (f.ins.length*4+2);have k3:=eP.frozenAt (f.ins.length*4+3);have HS8:(fun wx=>wx.cell? ⟨gt,0,none⟩=some (.int .i64 t.kind)/\wx.cell? ⟨gt,1,none⟩=some (.string t.word)/\wx.cell? ⟨gt,2,none⟩=some (.string t.unit)) w8:=by have hbt:w8.heap[gt]?=(w6.drew.alloc (.cells #[.int .i64 0,.string ⟨#[]⟩,.string ⟨#[]⟩,.slice none 0 0] 199)).heap[gt]?:=lD.block gt (by simp;omega) (fun e=>by have:=HFG.o gt e.symm;omega);have e:∀j,w8.cell? ⟨gt,j,none⟩=(w6.drew.alloc (.cells #[.int .i64 0,.string ⟨#[]⟩,.string ⟨#[]⟩,.slice none 0 0] 199)).cell? ⟨gt,j,none⟩:=fun j=>World.cell?_of_block (w:=w6.drew.alloc (.cells #[.int .i64 0,.string ⟨#[]⟩,.string ⟨#[]⟩,.slice none 0 0] 199)) hbt;exact⟨(e 0).trans HSA.1,(e 1).trans HSA.2.1,(e 2).trans HSA.2.2⟩
     have HIB:=agC.o gv vcv _ w8 eP lD agD;have HI8:=hid HIB;clear HIB eP lD agD;refine hK.o _ _ HS8 (fun _=>?_);clear hK K;refine Qp 10 rfl HS8 (fun _ _=>gs) ?_;refine Qp 12 rfl HS8 (fun _ _=>gs) ?_
     refine Qp 13 rfl HS8 (fun _ _=>gs) ?_;refine wpAnyH_ready (rs:=[11,14]) (by kernel_rfl) (by simp) ?_;refine AllReadyH.cons rfl (fun K hK=>?_) (AllReadyH.cons rfl (fun K hK=>?_) AllReadyH.nil)
     .go_simp;refine hK.o _ _ (KS.o _ _ _ _ F8 (KS.o _ _ _ _ F8 (KS.o _ _ _ _ F8 (KS.o _ _ _ _ F8 HS8)))) (fun _=>?_);clear hK K;refine iW 14 fun K hK=>?_;go_simp;refine hK.o _ _ (KS.o _ _ _ _ ajx (KS.o _ _ _ _ F8 (KS.o _ _ _ _ F8 (KS.o _ _ _ _ F8 (KS.o _ _ _ _ F8 HS8))))) (fun _=>?_);clear hK K;refine wpAnyH_done (by kernel_rfl) ?_ _;refine(show ∃n',n'<gk/\_ from⟨rest.length,SC,?_⟩);exact⟨rest,_,_,d,r+1,_,_,_,_,_,_,_,_,_,_,_,_,_,_,_,_,_,_,_,_,_,_,_,_,_,_,_,_,_,_,_,_,_,_,_,_,_,_,_,_,_,_,_,_,_,_,_,_,_,_,_,_,_,rfl,rfl,by rw[put_comm w8 adk];exact HI8.o⟩
     .go_simp;refine hK.o _ _ (KS.o _ _ _ _ ajx HS8) (fun _=>?_);clear hK K;refine iW 11 fun K hK=>?_;go_simp;refine hK.o _ _ (KS.o _ _ _ _ F8 (KS.o _ _ _ _ F8 (KS.o _ _ _ _ F8 (KS.o _ _ _ _ F8 (KS.o _ _ _ _ ajx HS8))))) (fun _=>?_);clear hK K;refine wpAnyH_done (by kernel_rfl) ?_ _;refine(show ∃n',n'<gk/\_ from⟨rest.length,SC,?_⟩);exact⟨rest,_,_,d,r+1,_,_,_,_,_,_,_,_,_,_,_,_,_,_,_,_,_,_,_,_,_,_,_,_,_,_,_,_,_,_,_,_,_,_,_,_,_,_,_,_,_,_,_,_,_,_,_,_,_,_,_,_,_,rfl,rfl,HI8.o⟩
   .have hb:=Hb.o;simp only[Bool.and_eq_true,beq_iff_eq]at hb;have HS:Hid (au t (closing f.tok)=true):=by
     show _=_;unfold au;have e:t.word=closing f.tok:=by have:=bytes_beq t.word (closing f.tok);rw[hb.2]at this;simpa using this.symm
     simp[hb.1,e]
    have HN:Hid (closing f.tok≠aA):=by
     intro e;have e2:t.word=aA:=by have:=bytes_beq t.word (closing f.tok);rw[hb.2]at this;rw[<-e];simpa using this.symm
     have:=ajv.o.sign hb.1;rw[e2]at this;exact absurd this (by decide)
    clear hb Hb;rcases List.eq_nil_or_concat L with e|⟨L2,f2,e⟩
    .exfalso
     have:=HI2.o.opens;rw[e,dG]at this;exact HN.o this
    rw[List.concat_eq_append]at e;subst e;have hl2:(L2++[f2]).length=L2.length+1:=by simp
    rw[hl2]at hLf HI2 WV q1 q2⊢;have hf2:f2.ins.length<=600:=by have:=HI2.o.tot;rw[iC,iC]at this;simp at this;omega
    have hf1:f.ins.length<=600:=by have:=HI2.o.tot;rw[iC,iC]at this;simp at this;omega
    clear hl2;go_wp2_with fail;refine(FK w.heap.size L2 f2 f _ w6 WV.o oo hf2 hf1 hw6).mono ?_;rintro e w7 ⟨v7,f7,rfl,alA,ht7,hi7,hb7⟩;have HI7:Hid (LW w all c cap n rest (r+1) v7 (L2++[f7]) d w7):=HI2.o.close alA ht7 hi7 (.inr ⟨t,rfl,HS.o⟩) (by rw[hb7.block c ado];exact OA.o) (HT6.o.upon hb7);clear alA ht7 hi7 hb7 HI2 WV;go_wp2_with fail;exact⟨rest.length,SC,rest,_,_,d,r+1,_,_,_,_,_,_,_,_,_,_,_,_,_,_,_,_,_,_,_,_,_,_,_,_,_,_,_,_,_,_,_,_,_,_,_,_,_,_,_,_,_,_,_,_,_,_,_,_,_,_,_,_,_,rfl,rfl,HI7.o⟩
end Go.Proofs.YtlliliddljkbfaaGreat
namespace Go.Proofs.YtlliliddljkbfaaGreat
open Go.Proofs.Tryz (prog)
open Go.RowKit Sp
structure Lit(w:WD):Prop where
 glob:∃m,w.cell? ⟨0,0,none⟩=some (.int .i64 m)
 pos:0<w.heap.size
theorem Lit.below{w w':WD}(h:Lit w)(hb:Below w.heap.size w w'):Lit w':=by obtain⟨m,hm⟩:=h.glob;exact⟨⟨m,by rw[<-hm];exact World.cell?_of_block (w:=w) (hb.block 0 h.pos)⟩,Nat.lt_of_lt_of_le h.pos hb.size⟩
theorem FM(s:BY)(w:WD)(hs:s.size<=600)(hl:Lit w):
  Calls prog 40 #[.string s] w fun e w'=>(∃u,e=.returned (.tuple #[u,.bool (decide (depth (bH s)<=8))])/\(depth (bH s)<=8->SG dB 4 (fun b=>b<w'.heap.size) w' u (rules true (bH s)))/\(¬depth (bH s)<=8->u=.slice none 0 0))/\Below w.heap.size w w':=by
 have HL:=hid hl;have hcs:=oZ s;have htl:=WM (Sp.clean s);have HTO:Hid (∀t∈toks (Sp.clean s),dI t):=Oz oo;obtain⟨nd,Hnd⟩:=Nm (bH s);have Hn2:Hid (nodes (toks (Sp.clean s))=nd):=Hnd.o;rw[Hnd.o];clear hl;go_in;go_wp2_with fail;refine(Df s w hs HL.o.glob HL.o.pos).mono ?_;rintro e w1 ⟨c,cap,n,rfl,hcw,hch,hb1⟩;have HC:=hid hch;have B1:=hid hb1;have hs1:=hb1.size;clear hch hb1;go_wp2_with fail;refine(adn (toks (Sp.clean s)) c cap n 0 w1 HC.o oo HTO.o).mono ?_;rw[Hn2.o];rintro e w2 ⟨v2,rfl,hS2,hT2⟩;obtain⟨va,vc,rfl⟩:=hS2.form;have B2:Hid (Below w.heap.size w w2):=Turn.over B1.o hT2 hcw;have hs2:=B2.o.size
 have HS2:Hid (Sl (fun b=>b<w2.heap.size) w2 (.slice va nd.length vc) nd):=hS2.keep (fun _ h=>h.2) (fun _ _=>rfl);clear hS2 hT2 HC;by_cases hd:depth nd<=8
 .have hd2:¬(8:Int)<(depth nd:Int):=oo;have hd3:(depth nd:Int)<=8:=oo;have HD:Hid (depth nd<=8):=hd;clear hd;go_wp2_with fail;refine(Rl w2.heap.size nd _ w2 HS2.o nl).mono ?_;rintro e w3 ⟨u3,rfl,WW,hb3⟩;obtain⟨ra,rc,rfl⟩:=WW.form;have Rn:=hid WW;have B3:=hid (B2.o.trans (hb3.mono hs2));clear WW hb3;go_wp2_with fail;go_ret2
  exact⟨⟨_,by rw[decide_eq_true HD.o];rfl,fun _=>Rn.o,fun h=>absurd HD.o h⟩,B3.o⟩
 .have hd2:(8:Int)<(depth nd:Int):=oo;have HD:Hid (¬depth nd<=8):=hd;clear hd;go_wp2_with fail;go_ret2
  exact⟨⟨_,by rw[decide_eq_false HD.o];rfl,fun h=>absurd h HD.o,fun _=>rfl⟩,B2.o⟩
theorem WX[bV]{s:BY}{p:aF}(h:qp p=false):dR s p=(aA,5):=by unfold dR;rw[if_pos h]
theorem SE[bV]{s:BY}{p:aF}(h:qp p=true)(h1:600<s.size):dR s p=(aA,1):=by unfold dR;rw[if_neg (by rw[h];simp),if_pos h1]
theorem SH[bV]{s:BY}{p:aF}(h:qp p=true)(h1:¬600<s.size)(h2:¬depth (bH s)<=8):dR s p=(aA,2):=by unfold dR;rw[if_neg (by rw[h];simp),if_neg h1,if_pos oo]
theorem SI[bV]{s:BY}{p:aF}(h:qp p=true)(h1:¬600<s.size)(h2:depth (bH s)<=8):dR s p=(tY p (depth (bH s)) true (bH s),0):=by unfold dR;rw[if_neg (by rw[h];simp),if_neg h1,if_neg oo]
theorem YT[bV](B:Nat)(s:BY)(p:aF)(pv fv av:Av)(w:WD)(hP:jK B w p pv fv av)(hI:jD w)(hds:jm)(hl:Lit w)(hr:p.root.size<=4194304)(hs:s.size<4611686018427387904):
  Calls prog 18 #[.string s,dF p pv fv av] w fun e w'=>e=.returned (.tuple #[.string (dR s p).1,.int .i64 (dR s p).2])/\Below w.heap.size w w':=by
 have hB:=hP.lt;obtain⟨pa,pc,rfl⟩:=hP.props.form;obtain⟨fa,fc,rfl⟩:=hP.aJ.form;obtain⟨aa,ac,rfl⟩:=hP.ats.form;have HL:=hid hl;have HII:=hid hI;have HDS:Hid jm:=hds;have HPM:=hid hP;obtain⟨B0,Q0⟩:=Qa.nb p pa fa aa pc fc ac w;clear hP hl hI hds;unfold dF;go_in;go_upto_region 1 with fail
 have hsz0:=B0.o.size;generalize w.alloc (.cells #[.string p.root,.slice pa p.props.length pc,.slice fa p.aJ.length fc,.slice aa p.ats.length ac,.bool p.aU,.bool p.texts] 41)=w0 at *;obtain⟨q0,q1,q2,q3,q4,q5⟩:=Q0.o.cs;have HC:=agu B p _ _ _ w0 (HPM.o.below B0.o hB) hr;unfold dF at HC;obtain⟨z,Hz⟩:=Nm (qp p);rw[Hz.o]at HC;have HC':Hid (Calls prog 39 #[.agg #[.string p.root,.slice pa p.props.length pc,.slice fa p.aJ.length fc,.slice aa p.ats.length ac,.bool p.aU,.bool p.texts]] w0 fun e w'=>(∃u,e=.returned (.tuple #[u,.bool z])/\(z=true->u=.agg #[.string p.root,.slice pa p.props.length pc,.slice fa p.aJ.length fc,.slice aa p.ats.length ac,.bool p.aU,.bool p.texts])/\(z=false->u=.agg #[.string ⟨#[]⟩,.slice none 0 0,.slice none 0 0,.slice none 0 0,.bool false,.bool false]))/\Below w0.heap.size w0 w'):=HC;clear HC
 go_wp2_with fail;refine HC'.o.mono ?_;rintro e w1 ⟨⟨u,rfl,hu1,hu2⟩,hb1⟩;have B1:=hid (B0.o.trans (hb1.mono hsz0));have hs1:=B1.o.size;clear hb1 HC' q0 q1 q2 q3 q4 q5;cases z
 .have hu:=hu2 rfl;subst hu;have HV:Hid (dR s p=(aA,5)):=WX Hz.o;clear hu1 hu2;go_wp2_with fail;go_ret2
  rw[HV.o];exact⟨rfl,B1.o.alloc hs1 _⟩
 .have hu:=hu1 rfl;subst hu;clear hu1 hu2;have B2:Hid (Below w.heap.size w (w1.alloc (.cells #[.string p.root,.slice pa p.props.length pc,.slice fa p.aJ.length fc,.slice aa p.ats.length ac,.bool p.aU,.bool p.texts] 82))):=B1.o.alloc hs1 _;have Q2:Hid (Q6 (w1.alloc (.cells #[.string p.root,.slice pa p.props.length pc,.slice fa p.aJ.length fc,.slice aa p.ats.length ac,.bool p.aU,.bool p.texts] 82)) w1.heap.size (.string p.root) (.slice pa p.props.length pc) (.slice fa p.aJ.length fc) (.slice aa p.ats.length ac) (.bool p.aU) (.bool p.texts)):=Q6.new _ _ _ _ _ _ _;go_upto_region 2 with fail
  generalize w1.alloc (.cells #[.string p.root,.slice pa p.props.length pc,.slice fa p.aJ.length fc,.slice aa p.ats.length ac,.bool p.aU,.bool p.texts] 82)=w2 at *;obtain⟨gt,mV⟩:=Nm w1.heap.size;rw[mV.o]at Q2 hs1⊢;have hs2:=B2.o.size;have hlt2:=Q2.o.lt;by_cases h6:600<s.size
  .have h6i:(600:Int)<(s.size:Int):=oo;have HV:Hid (dR s p=(aA,1)):=SE Hz.o h6;clear h6;go_wp2_with fail;go_ret2
   rw[HV.o];exact⟨rfl,B2.o⟩
  .have h6i:¬(600:Int)<(s.size:Int):=oo;have h6j:(s.size:Int)<=600:=oo;have H6:=hid h6;clear h6;have HLW:=HL.o.below B2.o;have HRS:=FM s w2 oo HLW;obtain⟨dd,Hdd⟩:=Nm (decide (depth (bH s)<=8));rw[Hdd.o]at HRS;have alB:=hid HRS;clear HRS HLW;go_wp2_with fail;refine alB.o.mono ?_;rintro e w3 ⟨⟨u3,rfl,hu1,hu2⟩,hb3⟩;have B3:=hid (B2.o.trans (hb3.mono hs2));have Q3':Hid (Q6 w3 gt (.string p.root) (.slice pa p.props.length pc) (.slice fa p.aJ.length fc) (.slice aa p.ats.length ac) (.bool p.aU) (.bool p.texts)):=Q2.o.below hb3 hlt2;have hs3:=B3.o.size;clear hb3 alB;cases dd
   .have hd:=of_decide_eq_false Hdd.o;have hu:=hu2 hd;subst hu;have HV:Hid (dR s p=(aA,2)):=SH Hz.o H6.o hd;clear hu1 hu2 hd;go_wp2_with fail;go_ret2
    rw[HV.o];exact⟨rfl,B3.o⟩
   .have hd:=of_decide_eq_true Hdd.o;have hsg:=hu1 hd;obtain⟨ra,rc,rfl⟩:=hsg.form;have Rn:=hid hsg;have HV:Hid (dR s p=(tY p (depth (bH s)) true (bH s),0)):=SI Hz.o H6.o hd;clear hu1 hu2 hd hsg;have hpp:=Hz.o;rw[YM]at hpp;simp only[Bool.and_eq_true,decide_eq_true_eq]at hpp;have hsg:=Di (s:=s) oo;have HB:=Sz p (.slice pa p.props.length pc) (.slice fa p.aJ.length fc) (.slice aa p.ats.length ac) HDS.o hpp.1.1.1.1.1 hpp.1.1.1.1.2 (depth (bH s)) true (bH s) B w HPM.o HII.o hsg.1 nl hsg.2 _ w3 B3.o Rn.o;unfold dF at HB;have HB':=hid HB;clear HB hpp hsg;obtain⟨q0,q1,q2,q3,q4,q5⟩:=Q3'.o.cs;go_wp2_with fail;refine HB'.o.mono ?_;rintro e w4 ⟨rfl,hb4⟩;have B4:=hid (B3.o.trans (hb4.mono hs3));clear hb4 HB';go_wp2_with fail;go_ret2
    rw[HV.o];exact⟨rfl,B4.o⟩
theorem TU(s:BY)(w:WD)(hs:s.size<=600)(hl:Lit w)(hd:depth (bH s)<=8):
  Calls prog 40 #[.string s] w fun e w'=>∃u,e=.returned (.tuple #[u,.bool true])/\SG dB 4 (oD w.heap.size w') w' u (rules true (bH s))/\Below w.heap.size w w':=by
 have HL:=hid hl;have hcs:=oZ s;have htl:=WM (Sp.clean s);have HTO:Hid (∀t∈toks (Sp.clean s),dI t):=Oz oo;obtain⟨nd,Hnd⟩:=Nm (bH s);have Hn2:Hid (nodes (toks (Sp.clean s))=nd):=Hnd.o;rw[Hnd.o]at hd;rw[Hnd.o];clear hl;go_in;go_wp2_with fail;refine(Df s w hs HL.o.glob HL.o.pos).mono ?_;rintro e w1 ⟨c,cap,n,rfl,hcw,hch,hb1⟩;have HC:=hid hch;have B1:=hid hb1;have hs1:=hb1.size;clear hch hb1;go_wp2_with fail;refine(adn (toks (Sp.clean s)) c cap n 0 w1 HC.o oo HTO.o).mono ?_;rw[Hn2.o];rintro e w2 ⟨v2,rfl,hS2,hT2⟩;obtain⟨va,vc,rfl⟩:=hS2.form;have B2:Hid (Below w.heap.size w w2):=Turn.over B1.o hT2 hcw;have hs2:=B2.o.size
 have HS2:Hid (Sl (Rg w.heap.size w2.heap.size) w2 (.slice va nd.length vc) nd):=hS2.keep (fun _ h=>⟨by have:=h.1;omega,h.2⟩) (fun _ _=>rfl);clear hS2 hT2 HC;have hd3:(depth nd:Int)<=8:=oo;clear hd;go_wp2_with fail;refine(TT w.heap.size w2.heap.size nd _ w2 HS2.o nl hs2).mono ?_;rintro e w3 ⟨u3,rfl,WW,hb3⟩;obtain⟨ra,rc,rfl⟩:=WW.form;have Rn:=hid WW;have B3:=hid (B2.o.trans (hb3.mono hs2));clear WW hb3;go_wp2_with fail;go_ret2
 exact⟨_,rfl,Rn.o,B3.o⟩
theorem aek:∃i,prog.info? 85=some i/\i.zero=some (.slice none 0 0)/\i.size=1/\i.bytes=24:=info_parts An
def KR(s:BY):List Rule:=rules true (bH s)
def nY(sh:List BY):Bool:=sh.any (fun s=>!decide (depth (bH s)<=8))
theorem abr{sh:List BY}{i:Nat}(h:i<sh.length)(h0:nY (sh.take i)=false):nY (sh.take (i+1)) = !decide (depth (bH sh[i])<=8):=by unfold nY at *;rw[List.take_succ_eq_append_getElem h,List.any_append,h0];simp
theorem Un{sh:List BY}{s:BY}(h:s∈sh)(hd:¬depth (bH s)<=8):nY sh=true:=by unfold nY;rw[List.any_eq_true];exact⟨s,h,by rw[decide_eq_false hd];rfl⟩
theorem abt{sh:List BY}(h:nY sh=false):∀s∈sh,depth (bH s)<=8:=by
 intro s hs;by_cases hd:depth (bH s)<=8
 .exact hd
 .rw[Un hs hd]at h;cases h
def rsR(sh:List BY)(w w':WD)(e:Ending):Prop:=if nY sh=true then e=.returned (.tuple #[.slice none 0 0,.bool false]) else ∃u,e=.returned (.tuple #[u,.bool true])/\SG (One dB 4) 1 (oD w.heap.size w') w' u (sh.map KR)
theorem PG(B:Nat)(sh:List BY)(v:Av)(w:WD)(h:SG eX 1 (fun b=>b<B) w v sh)(hB:B<=w.heap.size)(hl:Lit w)(hd:∀s∈sh,s.size<=600):
  Calls prog 35 #[v] w fun e w'=>rsR sh w w' e/\Below w.heap.size w w':=by
 have hln:=h.len;have HS:=hid h;have HL:=hid hl;have HD:=hid hd;have hF:Hid (Fair (One dB 4)):=One.fair dB.fair;obtain⟨a,cap,rfl⟩:=h.form;clear h hl hd;obtain⟨iT,hiT⟩:=aek;have HI:=hid hiT;clear hiT;go_in;go_wp2_with fail;go_loopg[4,11] sh.length (fun gg v4 v11 wr=>∃(u:Av) (i:Nat),u=v4/\v11=.int .i64 (i:Int)/\i+gg=sh.length/\Aside ((MG (One dB 4) 1 85 w.heap.size wr u ((sh.take i).map KR)/\Below w.heap.size w wr)/\nY (sh.take i)=false));case atStart=>exact⟨_,0,rfl,rfl,oo,⟨MG.nil _ _ _ _ _,As⟩,rfl⟩
 case round=>
  obtain⟨u,i,rfl,rfl,hi,hA⟩:=hrel;have HC:=hid hA.o.1;have HDP:=hid hA.o.2;clear hA;have hsr:=HC.o.2.size;have hmn:((sh.take i).map KR).length=i:=by rw[List.length_map,List.length_take];omega
  by_cases hlt:i<sh.length
  .have h1:(i:Int)<(sh.length:Int):=oo;obtain⟨g,o,rfl,hL,hcap⟩:=(HS.o.below eX.fair HC.o.2 hB).here (by rintro rfl;simp at hlt);obtain⟨_,d0,_⟩:=hL.str (i:=i) hlt;have hs6:=HD.o sh[i] (List.getElem_mem hlt);have HDA:Hid (nY (sh.take (i+1)) = !decide (depth (bH sh[i])<=8)):=abr hlt HDP.o;have HDM:Hid (¬depth (bH sh[i])<=8->nY sh=true):=fun hn=>Un (List.getElem_mem hlt) hn;have HM:Hid ((sh.take (i+1)).map KR=(sh.take i).map KR++[KR sh[i]]):=by
    show _=_;rw[List.take_succ_eq_append_getElem hlt,List.map_append];rfl
   generalize sh[i]=s at *;clear hL;by_cases hd8:¬depth (bH s)<=8
   .have HDT:=hid (HDM.o hd8);have HCS:=hid (FM s wr hs6 (HL.o.below HC.o.2));go_wp2_with fail;refine HCS.o.mono ?_;rintro e w2 ⟨⟨rv,rfl,_,hnil⟩,hb2⟩;obtain rfl:=hnil hd8;rw[decide_eq_false hd8];have X2:=hid (HC.o.2.trans (hb2.mono hsr));clear hb2 hnil hd8;go_wp2_with fail;go_ret2
    exact⟨by unfold rsR;rw[if_pos HDT.o];rfl,X2.o⟩
   have hd8:=Classical.not_not.1 hd8;rw[decide_eq_true hd8]at HDA;have am1:Hid (nY (sh.take (i+1))=false):=HDA.o;clear HDA HDM;go_wp2_with fail;refine(TU s wr hs6 (HL.o.below HC.o.2) hd8).mono ?_;rintro e w2 ⟨rv,rfl,Rj,hb2⟩;obtain⟨ra,rc,rfl⟩:=Rj.form;have HRV:=hid Rj;have X2:=hid (HC.o.2.trans (hb2.mono hsr));have M2:=hid (HC.o.1.below hF.o hb2);have hs2:=X2.o.size;have hsw:=hb2.size;obtain⟨n,Hn⟩:=Nm ((rules true (bH s)).length);rw[Hn.o]at HRV;rw[Hn.o]
   have PA:∀o,Hid (One dB 4 (DZ w.heap.size (w2.alloc o) u) (w2.alloc o) (rules true (bH s)) [.slice ra n rc]):=fun o=>HC.o.1.apart hF.o (show One dB 4 (oD wr.heap.size w2) w2 (rules true (bH s)) [.slice ra n rc] from⟨_,rfl,HRV.o⟩) hsr Aa (fun g hg=>Below.heap_alloc _ _ _ hg);obtain⟨cs,hown,pX⟩:=(M2.o.alloc hF.o (.cells #[.slice ra n rc] 85));have HO:Hid ((w2.alloc (.cells #[.slice ra n rc] 85)).ownsRow w.heap.size 85 1 u i cs):=by have h:=hown;rw[hmn]at h;exact h
   have Wx:=hid pX;clear hown pX Rj hb2 d0;go_wp2_with(at_builtin;go_must(refine wpList_append_own_at _ rfl _ _ 71 rfl w.heap.size 85 iT (.slice none 0 0) 1 24 Tryz.underlying71 HI.o.1 HI.o.2.1 HI.o.2.2.1 HI.o.2.2.2 rfl oo u i cs rfl HO.o ⟨w2.heap.size,0,none⟩ 1 1 [.slice ra n rc] rfl rfl (nO _ _ _) (by simp[Value.oneCell']) Ao oo Al ?_));intro v5 w5 hown5 hgr5 _ TV;have hlo:∀rr,u.ownBlock=some rr->w.heap.size<=rr:=fun rr hr=>(HO.o.lt rr hr).1;have hb5:Below w.heap.size w2 w5:=(As.alloc oo _).grown hgr5 Al hlo;have yE:w5.ownsRow w.heap.size 85 1 v5 (((sh.take i).map KR).length+1) (cs++[.slice ra n rc]):=by rw[hmn];exact hown5
   have M5:Hid (MG (One dB 4) 1 85 w.heap.size w5 v5 ((sh.take i).map KR++[rules true (bH s)])):=MG.snoc hF.o Wx.o (PA _).o yE hgr5 (by simpa using TV);have X5:=hid (X2.o.trans hb5);have HE:Hid (MG (One dB 4) 1 85 w.heap.size w5 v5 ((sh.take (i+1)).map KR)/\Below w.heap.size w w5):=⟨by rw[HM.o];exact M5.o,X5.o⟩;clear hown5 yE hgr5 TV hb5 hlo M5 X5 PA;go_wp2_with fail;go_roundg(gk-1);case measure=>omega
   case rel=>exact⟨v5,i+1,rfl,by congr 1,oo,HE.o,am1.o⟩
  .have h1:(sh.length:Int)<=(i:Int):=oo;have HE:Hid (SG (One dB 4) 1 (oD w.heap.size wr) wr u (sh.map KR)):=by
    have h:=HC.o.1.sl hF.o (One.sized dB 4) oo;rw[List.take_of_length_le (show sh.length<=i by omega)]at h;exact h
   have HDE:Hid (nY sh=false):=by have q:=HDP.o;rwa[List.take_of_length_le (show sh.length<=i by omega)]at q
   go_wp2_with fail;go_ret2
   exact⟨by unfold rsR;rw[if_neg (by rw[HDE.o];simp)];exact⟨_,rfl,HE.o⟩,HC.o.2⟩
def sK:wV Nat:=fun _ _ n cs=>cs=[.int .i64 (n:Int)]
theorem sK.fair:Fair sK:=fun _ _ _ _ _ _ _ _ h=>h
theorem sK.sized:ug sK 1:=by rintro S w x cs rfl;rfl
theorem LG.nat{S:Nat->Prop}{w:WD}{l:List Nat}{g o i:Nat}(h:LG sK 1 S w l g o)(hi:i<l.length):S g/\w.cell? ⟨g,o+i,none⟩=some (.int .i64 (l[i]:Int)):=by obtain⟨h0,cs,rfl,hc⟩:=h.at l g o i hi;have:=hc 0 _ rfl;rw[Nat.mul_one,Nat.add_zero]at this;exact⟨h0,this⟩
theorem aeA:∃i,prog.info? 3=some i/\i.zero=some (.int .i64 0)/\i.size=1/\i.bytes=8:=info_parts An
theorem MG.ahs{base:Nat}{w w':WD}{v v2:Av}{l:List Nat}{cs:List Av}(n:Nat)(h:jC sK (DZ base w v) w l cs)(hown:w'.ownsRow base 3 1 v2 (l.length+1) (cs++[.int .i64 (n:Int)]))(hg:w.grownBy w' v.ownBlock)(hat:v2.ownBlock=v.ownBlock\/v2.ownBlock=some w.heap.size):MG sK 1 3 base w' v2 (l++[n]):=MG.snoc sK.fair h rfl hown hg hat
def wR(p:aI)(s:Nat)(e:Nat):Bool:=match (Sp.ahead p e).getLast? with|none=>false|some k=>s.testBit k
def EP(s:Nat):List Nat->Nat
 |[]=>s
 |j::r=>EP (Gg s (2 ^ j)) r
theorem Zn(s:Nat)(hs:s<18446744073709551616):∀l,EP s l<18446744073709551616
 |[]=>hs
 |_::r=>Zn _ (GI _ _) r
theorem FQ(s:Nat):∀(l r:List Nat),EP s (l++r)=EP (EP s l) r
 |[],_=>rfl
 |j::l,r=>FQ (Gg s (2 ^ j)) l r
theorem Zo(n:Nat)(hn:n<=30):2 ^ n-1<18446744073709551616:=by have:=wB n hn;omega
def zI(p:aI):Nat->Nat
 |0=>2 ^ p.length-1
 |k+1=>EP (zI p k) (Sp.ahead p k)
theorem Zp(p:aI)(hn:p.length<=30):∀k,zI p k<18446744073709551616
 |0=>Zo _ hn
 |k+1=>Zn _ (Zp p hn k) _
def ER(p:aI):Nat->Nat
 |0=>2 ^ p.length-1
 |k+1=>Gg (ER p k) (2 ^ (parentOf p (k+1)).toNat)
theorem aht(p:aI)(hn:p.length<=30):∀k,ER p k<18446744073709551616
 |0=>Zo _ hn
 |_+1=>GI _ _
theorem GL(B:Nat)(p:aI)(e:Nat)(a:Option Addr)(cap:Nat)(w:WD)(h:jZ B w p a cap)(he:e<p.length):
  Calls prog 262 #[.agg #[.slice a p.length cap],.int .i64 (e:Int)] w fun en w'=>∃v',en=.returned v'/\SG sK 1 (oD w.heap.size w') w' v' (Sp.ahead p e)/\Below w.heap.size w w':=by
 have B0:Hid (Below w.heap.size w (w.alloc (.cells #[.slice a p.length cap] 66))):=As.alloc nl _;have V0:Hid (bU (w.alloc (.cells #[.slice a p.length cap] 66)) w.heap.size (.slice a p.length cap) 66):=bU.new _ _ _;have hlen:=h.len;have hBw:=h.lt;have wX:Hid (jZ B (w.alloc (.cells #[.slice a p.length cap] 66)) p a cap):=h.alloc _;obtain⟨pe,Hpe⟩:=Nm (parentOf p e);have HV:Hid (Sp.ahead p e=gJ p pe e):=by show _=_;unfold Sp.ahead;rw[Hpe.o]
 clear h;have h1:(e:Int)<(p.length:Int):=oo;obtain⟨iT,hiT⟩:=aeA;have HI:=hid hiT;clear hiT;go_in;go_wp2_with fail;have hsz0:=B0.o.size;have hlt0:=V0.o.lt;generalize w.alloc (.cells #[.slice a p.length cap] 66)=w0 at *;generalize hpb:w.heap.size=pb at *;go_loopg[5,8] e (fun gg v5 v6 wr=>∃(u:Av) (i:Nat),u=v5/\i+gg=e/\v6=.int .i64 (i:Int)/\Aside (MG sK 1 3 w0.heap.size wr u (gJ p pe i)/\Below w0.heap.size w0 wr));case atStart=>exact⟨_,0,rfl,oo,rfl,MG.nil _ _ _ _ _,As⟩
 case round=>
  obtain⟨u,i,rfl,hi,rfl,hA⟩:=hrel;have M1:=hid hA.o.1;have B1:=hid hA.o.2;clear hA;have hal:=AB p pe i;by_cases hlt:i<e
  .have h3:(i:Int)<(e:Int):=oo;have h4:(i:Int)<(p.length:Int):=oo;have HPr:=wX.o.below B1.o wX.o.lt;obtain⟨g,o,rfl,hgB,hcap,hcs⟩:=HPr.at;have d0:=hcs i oo;have d1:=hcs e he;rw[Hpe.o]at d1;have cv:=(V0.o.below B1.o hlt0).c;obtain⟨pi,Hpi⟩:=Nm (parentOf p i);rw[Hpi.o]at d0;clear hcs HPr;have hsz:=B1.o.size;by_cases heq:pi=pe
   .have hb:(pi==pe)=true:=by simpa using heq
    have HT:Hid (gJ p pe (i+1)=gJ p pe i++[i]):=by show _=_;rw[Fv,Hpi.o,if_pos heq]
    clear heq;go_wp2_with fail;go_quiet (fail)
    obtain⟨wd,hwd⟩:∃wd,wd=wr.drewN nq:=⟨_,rfl⟩;have M2:Hid (MG sK 1 3 w0.heap.size wd u (gJ p pe i)):=by rw[hwd];exact M1.o.keep sK.fair nl fun _ _ _=>rfl
    have B2:Hid (Below w0.heap.size w0 wd):=by rw[hwd];exact⟨B1.o.os,B1.o.tape,B1.o.output,B1.o.size,B1.o.block⟩
    rw[<-hwd];have hsz2:=B2.o.size;clear M1 B1 d0 d1 hwd cv;obtain⟨cs,hown,pX⟩:=(M2.o.alloc sK.fair (.cells #[.int .i64 (i:Int)] 3));have HO:=hid hown;have HC:=hid pX;clear hown pX;go_wp2_with(at_builtin;go_must(refine wpList_append_own_at _ rfl _ _ 31 rfl w0.heap.size 3 iT (.int .i64 0) 1 8 Tryz.underlying31 HI.o.1 HI.o.2.1 HI.o.2.2.1 HI.o.2.2.2 rfl oo u (gJ p pe i).length cs rfl HO.o ⟨wd.heap.size,0,none⟩ 1 1 [.int .i64 (i:Int)] rfl rfl (cell_one_new _ _ _) (by simp[Value.oneCell']) Ao oo Al ?_));intro v4 w4 hown4 dS _ oh
    have M4:Hid (MG sK 1 3 w0.heap.size w4 v4 (gJ p pe i++[i])):=MG.ahs i HC.o hown4 dS (by simpa using oh);have B4:Hid (Below w0.heap.size w0 w4):=(B2.o.alloc oo _).grown dS Al (fun rr hr=>(HO.o.lt rr hr).1);clear hown4 dS oh;go_wp2_with fail;go_roundg(gk-1);case measure=>omega
    case rel=>exact⟨v4,i+1,rfl,oo,by congr 1,by rw[HT.o];exact M4.o,B4.o⟩
   .have hb:(pi==pe)=false:=by simpa using heq
    have HT:Hid (gJ p pe (i+1)=gJ p pe i):=by show _=_;rw[Fv,Hpi.o,if_neg heq]
    clear heq;go_wp2_with fail;go_quiet (fail)
    go_wp2_with fail;go_roundg(gk-1);case measure=>omega
    case rel=>exact⟨u,i+1,rfl,oo,by congr 1,by rw[HT.o];exact M1.o.keep sK.fair nl fun _ _ _=>rfl,⟨B1.o.os,B1.o.tape,B1.o.output,B1.o.size,B1.o.block⟩⟩
  .have h3:(e:Int)<=(i:Int):=oo;have HT:Hid (Sp.ahead p e=gJ p pe i):=by show _=_;rw[HV.o,show i=e from by omega]
   go_wp2_with fail;go_ret;exact⟨_,rfl,by rw[HT.o];exact(M1.o.sl sK.fair sK.sized oo).keep sK.fair (fun g hg=>⟨by have:=hg.1;omega,hg.2⟩) (fun _ _=>rfl),by rw[hpb];exact B0.o.trans (B1.o.mono hsz0)⟩
theorem Ku{B:Nat}{w w':WD}(h:Below B w w')(k:Nat):Below B w (w'.drewN k):=⟨h.os,h.tape,h.output,h.size,h.block⟩
theorem Uo(B:Nat)(p:aI)(a:Option Addr)(cap s sb pb i:Nat)(w:WD)(h:jZ B w p a cap)(hi:i<p.length)(hs:s<18446744073709551616)
  (hsb:bU w sb (.int .u64 (s:Int)) 102) (hpb:bU w pb (.slice a p.length cap) 66):
  Calls prog 260 #[.int .i64 (i:Int),.pointer (some ⟨sb,0,none⟩),.pointer (some ⟨pb,0,none⟩)] w fun ex w'=>ex=.returned (.bool (hasB s (parentOf p i)))/\Below w.heap.size w w':=by
 obtain⟨g,o,rfl,hgB,hcap,hcs⟩:=h.at;have c0:=hcs i hi;have hq:=h.lo hi;have hlen:=h.len;have c1:=hsb.c;have c2:=hpb.c;have h1:(i:Int)<(p.length:Int):=oo;generalize parentOf p i=q at *;clear hcs h hsb hpb;go_in;go_wp2_with fail;go_quiet ((go_at_call 47;exact Calls.quiet_of_same (EN s q _ hs oo)))
 go_wp2_with fail;go_ret;exact⟨rfl,Ku As _⟩
theorem abu{p:aI}{s e:Nat}(h:Sp.ahead p e=[]):wR p s e=false:=by unfold wR;rw[h];rfl
theorem aeB{p:aI}{s e:Nat}(h:0<(Sp.ahead p e).length):wR p s e=hasB s (((Sp.ahead p e)[(Sp.ahead p e).length-1]'oo:Nat):Int):=by unfold wR;rw[List.getLast?_eq_getElem?,List.getElem?_eq_getElem oo,JO]
theorem ahu(B:Nat)(p:aI)(a:Option Addr)(cap s sb pb i:Nat)(w:WD)(h:jZ B w p a cap)(hi:i<p.length)(hs:s<18446744073709551616)
  (hsb:bU w sb (.int .u64 (s:Int)) 102) (hpb:bU w pb (.slice a p.length cap) 66):
  Calls prog 261 #[.int .i64 (i:Int),.pointer (some ⟨pb,0,none⟩),.pointer (some ⟨sb,0,none⟩)] w fun ex w'=>ex=.returned (.bool (wR p s i))/\Below w.heap.size w w':=by
 have hlen:=h.len;have c2:=hpb.c;have HH:=hid h;have HB1:=hid hsb;have hsl:=hsb.lt;have HA:Hid (∀x∈Sp.ahead p i,x<i):=fun x hx=>uh p (parentOf p i) i x hx;clear h hsb hpb;go_in;go_wp2_with fail;refine(GL B p i a cap w HH.o hi).mono ?_;rintro e w1 ⟨v',rfl,hsg,hb1⟩;obtain⟨va,vc,rfl⟩:=hsg.form;have B1:=hid hb1;have c1:=(HB1.o.below hb1 hsl).c;have hll:=hsg.len;by_cases hz:Sp.ahead p i=[]
 .have HV:Hid (wR p s i=false):=abu hz;have h0:((Sp.ahead p i).length:Int)=0:=by rw[hz];rfl
  have h0':¬(0:Int)<((Sp.ahead p i).length:Int):=oo;clear hsg hb1 hz;generalize(Sp.ahead p i).length=m at *;have hd:decide ((0:Int)<(m:Int))=false:=decide_eq_false h0';go_wp2_with fail;go_quiet (fail)
  go_wp2_with fail;go_ret;exact⟨aC HV.o.symm,Ku B1.o _⟩
 .obtain⟨g,o,rfl,hL,hcap⟩:=hsg.here hz;have hp:0<(Sp.ahead p i).length:=List.length_pos_iff.2 hz;have c3:=(hL.nat (i:=(Sp.ahead p i).length-1) oo).2;have HV:Hid (wR p s i=hasB s (((Sp.ahead p i)[(Sp.ahead p i).length-1]'oo:Nat):Int)):=aeB hp;have hk:=HA.o ((Sp.ahead p i)[(Sp.ahead p i).length-1]'oo) (List.getElem_mem _);generalize(Sp.ahead p i)[(Sp.ahead p i).length-1]'oo=k at *;have h0':(0:Int)<((Sp.ahead p i).length:Int):=oo;clear hsg hb1 hz hL HA;generalize(Sp.ahead p i).length=m at *;have hm1:((m:Int)-1)=((m-1:Nat):Int):=oo;have hw1:IntKind.i64.wrap ((m:Int)-1)=((m-1:Nat):Int):=by rw[IntKind.wrap_i64];omega
  have hm2:((m-1:Nat):Int)<(m:Int):=oo;go_wp2_with fail;go_quiet ((go_at_call 47;exact Calls.quiet_of_same (EN s (k:Int) _ hs oo)))
  go_wp2_with fail;go_ret;exact⟨aC HV.o.symm,Ku B1.o _⟩
theorem aeC{l:List Nat}{f:Nat->Bool}{j:Nat}(h:j<l.length):(l.drop j).any f=(f l[j]||(l.drop (j+1)).any f):=by rw[List.drop_eq_getElem_cons h];rfl
theorem abv(B:Nat)(p:aI)(a:Option Addr)(cap s sb pb i:Nat)(w:WD)(h:jZ B w p a cap)(hi:i<p.length)(hs:s<18446744073709551616)
  (hsb:bU w sb (.int .u64 (s:Int)) 102) (hpb:bU w pb (.slice a p.length cap) 66):
  Calls prog 263 #[.int .i64 (i:Int),.pointer (some ⟨pb,0,none⟩),.pointer (some ⟨sb,0,none⟩)] w fun ex w'=>ex=.returned (.bool ((Sp.ahead p i).any fun j=>s.testBit j))/\Below w.heap.size w w':=by
 have hlen:=h.len;have c2:=hpb.c;have HH:=hid h;have HB1:=hid hsb;have hsl:=hsb.lt;have HA:Hid (∀x∈Sp.ahead p i,x<i):=fun x hx=>uh p (parentOf p i) i x hx;clear h hsb hpb;go_in;go_wp2_with fail;refine(GL B p i a cap w HH.o hi).mono ?_;rintro e w1 ⟨v',rfl,hsg,hb1⟩;obtain⟨va,vc,rfl⟩:=hsg.form;have B1:=hid hb1;have HS:=hid hsg;have c1:=(HB1.o.below hb1 hsl).c;have hll:=hsg.len;clear hsg hb1 c2;obtain⟨l,Hl⟩:=Nm (Sp.ahead p i);rw[Hl.o]at HS HA hll;rw[Hl.o];go_wp2_with fail;go_loopg[11] l.length (fun gg v7 wr=>∃j:Nat,j+gg=l.length/\v7=.int .i64 (j:Int)/\wr=w1/\Aside (l.any (fun j=>s.testBit j)=(l.drop j).any (fun j=>s.testBit j)))
 case atStart=>exact⟨0,oo,rfl,rfl,rfl⟩
 case round=>
  obtain⟨go,hgo⟩:∃go,go=gk:=⟨_,rfl⟩;obtain⟨j,hj,rfl,rfl,hA⟩:=hrel;have HE:Hid (l.any (fun j=>s.testBit j)=(l.drop j).any (fun j=>s.testBit j)):=hA.o;clear hA;by_cases hlt:j<l.length
  .have h3:(j:Int)<(l.length:Int):=oo;obtain⟨g,o,rfl,hL,hcap⟩:=HS.o.here (by rintro rfl;simp at hlt);have c3:=(hL.nat (i:=j) hlt).2;have hk:=HA.o l[j] (List.getElem_mem _);have HE2:Hid (l.any (fun j=>s.testBit j)=(hasB s ((l[j]:Nat):Int)||(l.drop (j+1)).any (fun j=>s.testBit j))):=by
    show _=_;rw[HE.o,aeC hlt,JO]
   generalize l[j]=k at *;clear hL HE;go_wp2_with fail;refine(EN s (k:Int) _ hs oo).mono ?_;obtain⟨b,Hb⟩:=Nm (hasB s (k:Int));rw[Hb.o];rintro e wq ⟨rfl,hwq⟩;rw[hwq];clear hwq;rw[Hb.o]at HE2;cases b
   .go_wp2_with fail;go_roundg(go-1);case measure=>omega
    case rel=>exact⟨j+1,oo,by congr 1,rfl,HE2.o⟩
   .have HV:Hid (l.any (fun j=>s.testBit j)=true):=HE2.o;go_wp2_with fail;go_ret;exact⟨aC (by rw[Hl.o];exact HV.o.symm),B1.o⟩
  .have h3:(l.length:Int)<=(j:Int):=oo;have HV:Hid (l.any (fun j=>s.testBit j)=false):=by
    show _=_;rw[HE.o,List.drop_of_length_le oo];rfl
   go_wp2_with fail;go_ret;exact⟨aC (by rw[Hl.o];exact HV.o.symm),B1.o⟩
theorem XL(B:Nat)(p:aI)(a:Option Addr)(cap s:Nat)(w:WD)(h:jZ B w p a cap)(hs:s<18446744073709551616):
  Calls prog 200 #[.agg #[.slice a p.length cap],.int .u64 (s:Int)] w fun ex w'=>ex=.returned (.int .u64 (jq (fun i=>hasB s (parentOf p i)) p.length:Int))/\Below w.heap.size w w':=by
 have hmf:=nI;have hlen:=h.len;have hBw:=h.lt;obtain⟨V1,V2,hb⟩:=iR w (.slice a p.length cap) 66 (.int .u64 (s:Int)) 102;have P2:=hid (h.below hb hBw);have c1:=V1.c;have c2:=V2.c;have H1:=hid V1;have H2:=hid V2;have B2:=hid hb;clear V1 V2 hb h;go_in;go_wp2_with fail
 generalize(w.alloc (.cells #[.slice a p.length cap] 66)).alloc (.cells #[.int .u64 (s:Int)] 102)=w2 at *;refine(rZ p.length a cap _ _ (fun i=>hasB s (parentOf p i)) w2 hlen.2 (fun _ _=>rfl) ?_).mono ?_
 .intro i hi w' hb';exact Uo B p a cap s _ _ i w' (P2.o.below hb' P2.o.lt) hi hs (H2.o.below hb' H2.o.lt) (H1.o.below hb' H1.o.lt)
 .rintro e wq ⟨rfl,hwq⟩;have B3:=hid (Ay B2.o hwq);clear hwq;go_wp2_with fail;go_ret;exact⟨rfl,B3.o⟩
theorem aj8(B:Nat)(p:aI)(a:Option Addr)(cap s:Nat)(w:WD)(h:jZ B w p a cap)(hs:s<18446744073709551616):
  Calls prog 201 #[.agg #[.slice a p.length cap],.int .u64 (s:Int)] w fun ex w'=>ex=.returned (.int .u64 (jq (fun i=>wR p s i) p.length:Int))/\Below w.heap.size w w':=by
 have hmf:=nI;have hlen:=h.len;have hBw:=h.lt;obtain⟨V1,V2,hb⟩:=iR w (.slice a p.length cap) 66 (.int .u64 (s:Int)) 102;have P2:=hid (h.below hb hBw);have c1:=V1.c;have c2:=V2.c;have H1:=hid V1;have H2:=hid V2;have B2:=hid hb;clear V1 V2 hb h;go_in;go_wp2_with fail
 generalize(w.alloc (.cells #[.slice a p.length cap] 66)).alloc (.cells #[.int .u64 (s:Int)] 102)=w2 at *;refine(rZ p.length a cap _ _ (fun i=>wR p s i) w2 hlen.2 (fun _ _=>rfl) ?_).mono ?_
 .intro i hi w' hb';exact ahu B p a cap s _ _ i w' (P2.o.below hb' P2.o.lt) hi hs (H2.o.below hb' H2.o.lt) (H1.o.below hb' H1.o.lt)
 .rintro e wq ⟨rfl,hwq⟩;have B3:=hid (Ay B2.o hwq);clear hwq;go_wp2_with fail;go_ret;exact⟨rfl,B3.o⟩
theorem aeD(B:Nat)(p:aI)(a:Option Addr)(cap s:Nat)(w:WD)(h:jZ B w p a cap)(hs:s<18446744073709551616):
  Calls prog 202 #[.agg #[.slice a p.length cap],.int .u64 (s:Int)] w fun ex w'=>ex=.returned (.int .u64 (jq (fun i=>(Sp.ahead p i).any fun j=>s.testBit j) p.length:Int))/\Below w.heap.size w w':=by
 have hmf:=nI;have hlen:=h.len;have hBw:=h.lt;obtain⟨V1,V2,hb⟩:=iR w (.slice a p.length cap) 66 (.int .u64 (s:Int)) 102;have P2:=hid (h.below hb hBw);have c1:=V1.c;have c2:=V2.c;have H1:=hid V1;have H2:=hid V2;have B2:=hid hb;clear V1 V2 hb h;go_in;go_wp2_with fail
 generalize(w.alloc (.cells #[.slice a p.length cap] 66)).alloc (.cells #[.int .u64 (s:Int)] 102)=w2 at *;refine(rZ p.length a cap _ _ (fun i=>(Sp.ahead p i).any fun j=>s.testBit j) w2 hlen.2 (fun _ _=>rfl) ?_).mono ?_
 .intro i hi w' hb';exact abv B p a cap s _ _ i w' (P2.o.below hb' P2.o.lt) hi hs (H2.o.below hb' H2.o.lt) (H1.o.below hb' H1.o.lt)
 .rintro e wq ⟨rfl,hwq⟩;have B3:=hid (Ay B2.o hwq);clear hwq;go_wp2_with fail;go_ret;exact⟨rfl,B3.o⟩
theorem Ur(x k:Nat)(hk:k<=30):bits .andNot .u64 (x:Int) (IntKind.u64.wrap (2 ^ k))=(Gg x (2 ^ k):Int):=by rw[Px k hk,TN]
theorem abw(s:Nat)(l:List Nat)(j:Nat)(h:j<l.length):EP s (l.take (j+1))=Gg (EP s (l.take j)) (2 ^ l[j]):=by rw[List.take_succ_eq_append_getElem h,FQ];rfl
theorem aj9(B:Nat)(p:aI)(a:Option Addr)(cap:Nat)(w:WD)(h:jZ B w p a cap):
  Calls prog 362 #[.agg #[.slice a p.length cap]] w fun ex w'=>ex=.returned (.int .u64 (zI p p.length:Int))/\Below w.heap.size w w':=by
 have B0:Hid (Below w.heap.size w (w.alloc (.cells #[.slice a p.length cap] 66))):=As.alloc nl _;have V0:Hid (bU (w.alloc (.cells #[.slice a p.length cap] 66)) w.heap.size (.slice a p.length cap) 66):=bU.new _ _ _;have hlen:=h.len;have wX:Hid (jZ B (w.alloc (.cells #[.slice a p.length cap] 66)) p a cap):=h.alloc _;have c00:=V0.o.c;clear h;go_in;go_wp2_with fail;have hsz0:=B0.o.size;have hlt0:=V0.o.lt;generalize w.alloc (.cells #[.slice a p.length cap] 66)=w0 at *;generalize hpb:w.heap.size=pb at *;refine pmb (TP p.length a cap _ hlen.2) fun w1 hw1=>?_;have B1:=hid hw1;have c0:=(V0.o.below hw1 hlt0).c;clear hw1;go_wp2_with fail;go_loopg[3,12] p.length (fun g v5 v wr=>∃k:Nat,k+g=p.length/\v=.int .i64 (k:Int)/\v5=.int .u64 (zI p k:Int)/\Aside (Below w0.heap.size w0 wr))
 case atStart=>exact⟨0,oo,rfl,rfl,B1.o⟩
 case round=>
  obtain⟨go,hgo⟩:∃go,go=gk:=⟨_,rfl⟩;obtain⟨k,hk,rfl,rfl,hA⟩:=hrel;have BR:Hid (Below w0.heap.size w0 wr):=hA.o;have cr:=(V0.o.below BR.o hlt0).c;have akb:=BR.o.size;clear hA c0;by_cases hlt:k<p.length
  .have h1:(k:Int)<(p.length:Int):=oo;go_wp2_with fail;refine(GL B p k a cap wr (wX.o.below BR.o wX.o.lt) hlt).mono ?_;rintro e w2 ⟨v',rfl,hsg,hb2⟩;obtain⟨va,vc,rfl⟩:=hsg.form;have B2:=hid (BR.o.trans (hb2.mono akb));have HS:=hid hsg;have HL:Hid (zI p (k+1)=EP (zI p k) (Sp.ahead p k)):=rfl;have HA:Hid (∀x∈Sp.ahead p k,x<k):=fun x hx=>uh p (parentOf p k) k x hx;have hll:=hsg.len;clear hsg hb2 cr;generalize Sp.ahead p k=l at *;go_wp2_with fail;go_loopg[3,19] l.length (fun g v5 v wq=>∃j:Nat,j+g=l.length/\v=.int .i64 (j:Int)/\v5=.int .u64 (EP (zI p k) (l.take j):Int)/\wq=w2);case atStart=>exact⟨0,oo,rfl,rfl,rfl⟩
   case round=>
    obtain⟨gi,hgi⟩:∃gi,gi=gk:=⟨_,rfl⟩;obtain⟨j,hj,rfl,rfl,rfl⟩:=hrel;by_cases hlj:j<l.length
    .have h3:(j:Int)<(l.length:Int):=oo;obtain⟨g,o,rfl,hL,hcap⟩:=HS.o.here (by rintro rfl;simp at hlj);have c3:=(hL.nat (i:=j) hlj).2;have hk2:=HA.o l[j] (List.getElem_mem _);have HT:=abw (zI p k) l j hlj;generalize l[j]=m at *;have HO:Hid (bits .andNot .u64 (EP (zI p k) (l.take j):Int) (IntKind.u64.wrap (2 ^ m))=(EP (zI p k) (l.take (j+1)):Int)):=by show _=_;rw[HT,Ur _ _ oo]
     have h30:(m:Int)<30:=oo;clear HT hL;go_wp2_with fail;go_roundg(gi-1);case measure=>omega
     case rel=>exact⟨j+1,oo,by congr 1,by rw[HO.o],rfl⟩
    .have h3:(l.length:Int)<=(j:Int):=oo;have HV:Hid (EP (zI p k) (l.take j)=zI p (k+1)):=by show _=_;rw[HL.o,List.take_of_length_le oo]
     go_wp2_with fail;go_roundg(go-1);case measure=>omega
     case rel=>exact⟨k+1,oo,by congr 1,by rw[HV.o],B2.o⟩
  .have h1:(p.length:Int)<=(k:Int):=oo;have HV:Hid (zI p k=zI p p.length):=by show _=_;rw[show k=p.length by omega]
   go_wp2_with fail;go_ret;rw[HV.o];exact⟨rfl,by rw[hpb];exact B0.o.trans (BR.o.mono hsz0)⟩
theorem aeE:∃i,prog.info? 35=some i/\i.zero=some (.agg #[.int .i64 0,.string ⟨#[]⟩,.string ⟨#[]⟩,.slice none 0 0,.slice none 0 0])/\i.size=5/\i.bytes=88:=info_parts An
theorem abx(g o n cap:Nat)(h1:1<=n)(h2:n<=cap)(h3:n<=30):∃a',(∀W:WD,(Instr.slice 22 (.slice (some ⟨g,o,none⟩) n cap) (some (.int .i64 1)) none none).run prog W=.ok (.slice a' (n-1) (cap-1)) W)/\(1<n->a'=some ⟨g,o+5,none⟩):=by
 obtain⟨iT,i1,_,i3,_⟩:=aeE;refine⟨if cap=1 then some ⟨g,o,none⟩ else some ⟨g,o+5,none⟩,fun W=>?_,fun h=>?_⟩
 .rw[run_slice_l (P:=prog) W 22 _ n cap Tryz.underlying22 .i64 1 oo oo];have e:prog.elem 22=35:=by kernel_rfl
  simp[sizeOf,typeInfo,e,i1,i3,sliced,Result.andThen,Addr.add]
 .rw[if_neg oo]
theorem aeF(p:aI)(k:Nat){q:Int}(hq:parentOf p (k+1)=q)(h:0<=q)(h2:q<30):bits .andNot .u64 (ER p k:Int) (IntKind.u64.wrap (2 ^ q.toNat))=(ER p (k+1):Int):=by
 rw[Ur _ _ oo];conv=>rhs;unfold ER
 rw[hq]
theorem ahv(B:Nat)(p:aI)(a:Option Addr)(cap:Nat)(w:WD)(h:jZ B w p a cap):
  Calls prog 363 #[.agg #[.slice a p.length cap]] w fun ex w'=>ex=.returned (.int .u64 (ER p (p.length-1):Int))/\Below w.heap.size w w':=by
 have B0:Hid (Below w.heap.size w (w.alloc (.cells #[.slice a p.length cap] 66))):=As.alloc nl _;have V0:Hid (bU (w.alloc (.cells #[.slice a p.length cap] 66)) w.heap.size (.slice a p.length cap) 66):=bU.new _ _ _;have hlen:=h.len;have wX:Hid (jZ B (w.alloc (.cells #[.slice a p.length cap] 66)) p a cap):=h.alloc _;have c00:=V0.o.c;clear h;go_in;go_wp2_with fail;have hsz0:=B0.o.size;have hlt0:=V0.o.lt;generalize w.alloc (.cells #[.slice a p.length cap] 66)=w0 at *;generalize hpb:w.heap.size=pb at *;refine pmb (TP p.length a cap _ hlen.2) fun w1 hw1=>?_;have B1:=hid hw1;have c0:=(V0.o.below hw1 hlt0).c;obtain⟨g,o,rfl,hgB,hcap,hcs⟩:=wX.o.at;obtain⟨a',hcut,ha'⟩:=abx g o p.length cap hlen.1 hcap hlen.2;clear hw1 hcs;have hn1:((p.length-1:Nat):Int)=(p.length:Int)-1:=oo;go_wp2_with fail
 go_loopg[3,12] (p.length-1) (fun g v5 v wr=>∃k:Nat,k+g=p.length-1/\v=.int .i64 (k:Int)/\v5=.int .u64 (ER p k:Int)/\Aside (Below w0.heap.size w0 wr));case atStart=>exact⟨0,oo,rfl,rfl,B1.o⟩
 case round=>
  obtain⟨go,hgo⟩:∃go,go=gk:=⟨_,rfl⟩;obtain⟨k,hk,rfl,rfl,hA⟩:=hrel;have BR:Hid (Below w0.heap.size w0 wr):=hA.o;have akb:=BR.o.size;clear hA c0;by_cases hlt:k<p.length-1
  .have h1:(k:Int)<((p.length-1:Nat):Int):=oo;have hP:=wX.o.below BR.o wX.o.lt;obtain⟨g',o',he,hL,_⟩:=hP.sg.here (by rintro rfl;simp at hlt);cases he;obtain rfl:=ha' oo;obtain⟨cv,av,hX⟩:=hL.el (i:=k+1) oo;have Hq:Hid (parentOf p (k+1)=(p[k+1]'oo).parent):=ng oo;have hq:=hP.lo (i:=k+1) oo;have hroot:=hP.par.root (k+1) oo;rw[Hq.o]at hq hroot;generalize(p[k+1]'oo)=x at *;have hq0:0<=x.parent:=by
    rcases Int.lt_or_le x.parent 0 with hh|hh
    .have:=hroot hh;omega
    .exact hh
   have am2:x.parent<30:=oo;obtain⟨ca,cc,rfl⟩:=hX.cl.form;obtain⟨aa,ac,rfl⟩:=hX.at_.form;have eo:o+5+k*5=o+(k+1)*5:=oo;have d0:wr.cell? ⟨g,o+5+k*5,none⟩=some (.int .i64 x.parent):=by rw[eo];exact hX.c0
   have d1:wr.cell? ⟨g,o+5+k*5+1,none⟩=some (.string x.tag):=by rw[eo];exact hX.c1
   have d2:wr.cell? ⟨g,o+5+k*5+2,none⟩=some (.string x.id):=by rw[eo];exact hX.c2
   have d3:wr.cell? ⟨g,o+5+k*5+3,none⟩=some (.slice ca x.classes.length cc):=by rw[eo];exact hX.c3
   have d4:wr.cell? ⟨g,o+5+k*5+4,none⟩=some (.slice aa x.attrs.length ac):=by rw[eo];exact hX.c4
   have HV:Hid (bits .andNot .u64 (ER p k:Int) (IntKind.u64.wrap (2 ^ x.parent.toNat))=(ER p (k+1):Int)):=aeF p k Hq.o hq0 am2;have X2:Hid (XE (wr.alloc (.cells #[.int .i64 x.parent,.string x.tag,.string x.id,.slice ca x.classes.length cc,.slice aa x.attrs.length ac] 35)) wr.heap.size x (.slice ca x.classes.length cc) (.slice aa x.attrs.length ac)):=heap_alloc_new wr _;have B2:Hid (Below w0.heap.size w0 (wr.alloc (.cells #[.int .i64 x.parent,.string x.tag,.string x.id,.slice ca x.classes.length cc,.slice aa x.attrs.length ac] 35))):=BR.o.alloc akb _;clear hX hL hP hroot hq eo;go_upto_region 5 with fail
   generalize wr.alloc (.cells #[.int .i64 x.parent,.string x.tag,.string x.id,.slice ca x.classes.length cc,.slice aa x.attrs.length ac] 35)=w2 at *;generalize wr.heap.size=xb at *;clear d0 d1 d2 d3 d4;obtain⟨d0,d1,d2,d3,d4⟩:=X2.o.cs;go_wp2_with fail;go_roundg(go-1);case measure=>omega
   case rel=>exact⟨k+1,oo,by congr 1,by rw[HV.o],B2.o⟩
  .have h1:((p.length-1:Nat):Int)<=(k:Int):=oo;have HV:Hid (ER p k=ER p (p.length-1)):=by show _=_;rw[show k=p.length-1 by omega]
   go_wp2_with fail;go_ret;rw[HV.o];exact⟨rfl,by rw[hpb];exact B0.o.trans (BR.o.mono hsz0)⟩
theorem wS{w w':WD}{a:Addr}{v:Av}(h:w.cell? a=some v)(hb:Below w.heap.size w w'):w'.cell? a=some v:=(World.cell?_of_block (hb.block _ (World.block_lt_of_cell? w a h))).trans h
theorem alT(B:Nat)(p:aI)(a:Option Addr)(cap fb pb i:Nat)(g:Nat)(cs:Array Av)(t:Nat->Bool)(w:WD)(h:jZ B w p a cap)(hi:i<p.length)
  (hfb:bU w fb (.func (.func g) #[] cs) 69) (hpb:bU w pb (.slice a p.length cap) 66)
  (hg:∀(args:Array Av) (w:WD),(callFunc g args).run prog w=.ok (.enter g args) w)
  (hf:∀k,1<=k->k<=31->∀w',Below w.heap.size w w'->Calls prog g (#[.int .i64 (k:Int)]++cs) w' fun ex w''=>ex=.returned (.bool (t k))/\Below w'.heap.size w' w''):
  Calls prog 364 #[.int .i64 (i:Int),.pointer (some ⟨fb,0,none⟩),.pointer (some ⟨pb,0,none⟩)] w fun ex w'=>ex=.returned (.bool (t (qo p i)))/\Below w.heap.size w w':=by
 have hlen:=h.len;have d1:=hfb.c;have d2:=hpb.c;have HH:=hid h;have HF:=hid hf;have hal:(Sp.ahead p i).length<=i:=AB p (parentOf p i) i;have HP:Hid (qo p i=(Sp.ahead p i).length+1):=rfl;clear h hf hfb hpb;go_in;go_wp2_with fail;refine wp_region_any An ?_;change wpAny _ _ _ _ _ _ _ (World.drew _);obtain⟨wz,hwz⟩:∃x,World.drew w=x:=⟨_,rfl⟩;have hz:Below w.heap.size w wz:=by rw[<-hwz];exact As.drew
 rw[hwz];have BZ:=hid hz;have SZ:Hid (wz.cell? ⟨fb,0,none⟩=some (.func (.func g) #[] cs)/\wz.cell? ⟨pb,0,none⟩=some (.slice a p.length cap)):=⟨wS d1 hz,wS d2 hz⟩;have hsz:=hz.size;clear hz hwz d1 d2;refine wpAny_of_held (S:=fun wx=>wx.cell? ⟨fb,0,none⟩=some (.func (.func g) #[] cs)/\wx.cell? ⟨pb,0,none⟩=some (.slice a p.length cap)) _ _ _ _ ?_;refine dH 0 rfl SZ.o (by intro w hSw;obtain⟨z1,z2⟩:=hSw;exact gs) ?_;refine dH 1 rfl SZ.o (by intro w hSw;obtain⟨z1,z2⟩:=hSw;exact gs) ?_;refine dH 2 rfl SZ.o (by intro w hSw;obtain⟨z1,z2⟩:=hSw;exact gs) ?_;refine iW 3 fun K hK=>?_;go_simp;refine(GL B p i a cap wz (HH.o.below BZ.o HH.o.lt) hi).mono ?_;rintro e w1 ⟨v',rfl,hsg,hb1⟩;obtain⟨va,vc,rfl⟩:=hsg.form
 have B1:=hid (BZ.o.trans (hb1.mono hsz));have S1:Hid (w1.cell? ⟨fb,0,none⟩=some (.func (.func g) #[] cs)/\w1.cell? ⟨pb,0,none⟩=some (.slice a p.length cap)):=⟨wS SZ.o.1 hb1,wS SZ.o.2 hb1⟩;have hs1:=B1.o.size;clear hsg hb1;refine hK.o _ _ S1.o (fun _=>?_);clear hK K;obtain⟨m,Hm⟩:=Nm ((Sp.ahead p i).length);rw[Hm.o]at hal HP;rw[Hm.o];have hw1:IntKind.i64.wrap ((m:Int)+1)=(m:Int)+1:=by rw[IntKind.wrap_i64];omega
 have hc:=HF.o (m+1) oo oo w1 B1.o;rw[show(((m+1:Nat)):Int)=(m:Int)+1 by omega]at hc;have HC:=hid hc;clear hc;refine dH 4 rfl S1.o (fun _ _=>gs) ?_;refine dH 5 rfl S1.o (fun _ _=>gs) ?_;refine iW 6 fun K hK=>?_;go_simp;refine HC.o.mono ?_;rintro e wq ⟨rfl,hwq⟩;have BQ:=hid (B1.o.trans (hwq.mono hs1));have SQ:Hid (wq.cell? ⟨fb,0,none⟩=some (.func (.func g) #[] cs)/\wq.cell? ⟨pb,0,none⟩=some (.slice a p.length cap)):=⟨wS S1.o.1 hwq,wS S1.o.2 hwq⟩;clear hwq;refine hK.o _ _ SQ.o (fun _=>?_);clear hK K;refine iW 7 fun K hK=>?_;go_simp;refine hK.o _ _ (SQ.o) (fun _=>?_);clear hK K;refine wpAnyH_done An ?_ _
 go_wp2_with fail;go_ret;rw[HP.o];exact⟨rfl,BQ.o⟩
theorem alU(B:Nat)(p:aI)(a:Option Addr)(cap:Nat)(g:Nat)(cs:Array Av)(t:Nat->Bool)(w:WD)(h:jZ B w p a cap)
  (hg:∀(args:Array Av) (w:WD),(callFunc g args).run prog w=.ok (.enter g args) w)
  (hf:∀k,1<=k->k<=31->∀w',Below w.heap.size w w'->Calls prog g (#[.int .i64 (k:Int)]++cs) w' fun ex w''=>ex=.returned (.bool (t k))/\Below w'.heap.size w' w''):
  Calls prog 360 #[.agg #[.slice a p.length cap],.func (.func g) #[] cs] w fun ex w'=>ex=.returned (.int .u64 (jq (fun i=>t (qo p i)) p.length:Int))/\Below w.heap.size w w':=by
 have hmf:=nI;have hlen:=h.len;have hBw:=h.lt;obtain⟨V1,V2,hb⟩:=iR w (.slice a p.length cap) 66 (.func (.func g) #[] cs) 69;have P2:=hid (h.below hb hBw);have c1:=V1.c;have c2:=V2.c;have H1:=hid V1;have H2:=hid V2;have B2:=hid hb
 have HF:=hid hf;have HG:=hid hg;clear V1 V2 hb h hf hg;go_in;go_wp2_with fail;generalize(w.alloc (.cells #[.slice a p.length cap] 66)).alloc (.cells #[.func (.func g) #[] cs] 69)=w2 at *;refine(rZ p.length a cap _ _ (fun i=>t (qo p i)) w2 hlen.2 (fun _ _=>rfl) ?_).mono ?_
 .intro i hi w' hb';refine alT B p a cap _ _ i g cs t w' (P2.o.below hb' P2.o.lt) hi (H2.o.below hb' H2.o.lt) (H1.o.below hb' H1.o.lt) HG.o ?_;intro k hk1 hk2 w'' aea;exact HF.o k hk1 hk2 w'' ((Ay B2.o hb').trans (aea.mono (Nat.le_trans B2.o.size hb'.size)))
 .rintro e wq ⟨rfl,hwq⟩;have B3:=hid (Ay B2.o hwq);clear hwq;go_wp2_with fail;go_ret;exact⟨rfl,B3.o⟩
def stS(p:aI)(nm:BY):Nat:=if nm=BL then 1 else if nm=uY then jq (fun i=>qo p i==1) p.length else if nm=BM then zI p p.length else ER p (p.length-1)
theorem aeG(k:Nat)(w:WD):
  Calls prog 361 #[.int .i64 (k:Int)] w fun ex w'=>ex=.returned (.bool (k==1))/\Below w.heap.size w w':=by
 have HV:Hid (((k:Int)==1)=(k==1)):=by show _=_;rw[Bool.eq_iff_iff];simp;omega
 go_in;go_wp2_with fail;go_ret;exact⟨aC HV.o,As⟩
theorem aeH(B:Nat)(p:aI)(a:Option Addr)(cap:Nat)(nm:BY)(w:WD)(h:jZ B w p a cap):
  Calls prog 356 #[.agg #[.string nm],.agg #[.slice a p.length cap]] w fun ex w'=>ex=.returned (.int .u64 (stS p nm:Int))/\Below w.heap.size w w':=by
 have hBw:=h.lt;obtain⟨V1,V2,hb⟩:=iR w (.string nm) 343 (.slice a p.length cap) 66;have P2:=hid (h.below hb hBw);have c1:=V1.c;have c2:=V2.c;have B2:=hid hb;clear V1 V2 hb h;have h1:(nm.toList==[114,111,111,116])=decide (nm=BL):=ay _ _;have h2:(nm.toList==[102,105,114,115,116,45,99,104,105,108,100])=decide (nm=uY):=ay _ _;have h3:(nm.toList==[108,97,115,116,45,99,104,105,108,100])=decide (nm=BM):=ay _ _;by_cases e1:nm=BL
 .have HS:Hid (stS p nm=1):=by show _=_;unfold stS;rw[if_pos e1]
  rw[decide_eq_true e1]at h1;clear e1 h2 h3;go_in;go_wp2_with fail;generalize(w.alloc (.cells #[.string nm] 343)).alloc (.cells #[.slice a p.length cap] 66)=w2 at *;refine pmb (ajN (.slice a p.length cap) w2) fun wq hwq=>?_;have B3:=hid (Ay B2.o hwq);clear hwq;go_wp2_with fail;go_ret;rw[HS.o];exact⟨rfl,B3.o⟩
 rw[decide_eq_false e1]at h1;by_cases e2:nm=uY
 .have HS:Hid (stS p nm=jq (fun i=>qo p i==1) p.length):=by show _=_;unfold stS;rw[if_neg e1,if_pos e2]
  rw[decide_eq_true e2]at h2;clear e1 e2 h3;go_in;go_wp2_with fail;generalize(w.alloc (.cells #[.string nm] 343)).alloc (.cells #[.slice a p.length cap] 66)=w2 at *;refine pmb (alU B p a cap 361 #[] (fun k=>k==1) w2 P2.o (fun _ _=>rfl) (fun k _ _ w' _=>aeG k w')) fun wq hwq=>?_;have B3:=hid (Ay B2.o hwq);clear hwq;go_wp2_with fail;go_ret;rw[HS.o];exact⟨rfl,B3.o⟩
 rw[decide_eq_false e2]at h2;by_cases e3:nm=BM
 .have HS:Hid (stS p nm=zI p p.length):=by show _=_;unfold stS;rw[if_neg e1,if_neg e2,if_pos e3]
  rw[decide_eq_true e3]at h3;clear e1 e2 e3;go_in;go_wp2_with fail;generalize(w.alloc (.cells #[.string nm] 343)).alloc (.cells #[.slice a p.length cap] 66)=w2 at *;refine pmb (aj9 B p a cap w2 P2.o) fun wq hwq=>?_;have B3:=hid (Ay B2.o hwq);clear hwq;go_wp2_with fail;go_ret;rw[HS.o];exact⟨rfl,B3.o⟩
 rw[decide_eq_false e3]at h3
 .have HS:Hid (stS p nm=ER p (p.length-1)):=by show _=_;unfold stS;rw[if_neg e1,if_neg e2,if_neg e3]
  clear e1 e2 e3;go_in;go_wp2_with fail;generalize(w.alloc (.cells #[.string nm] 343)).alloc (.cells #[.slice a p.length cap] 66)=w2 at *;refine pmb (ahv B p a cap w2 P2.o) fun wq hwq=>?_;have B3:=hid (Ay B2.o hwq);clear hwq;go_wp2_with fail;go_ret;rw[HS.o];exact⟨rfl,B3.o⟩
def Mc(k:Nat):BY:=if k=0 then sZ else if k=1 then l7 else aA
def plI(k:Nat):Nat:=if k=0 then 0 else if k=1 then 0 else k-2
def plT(k i:Nat):Bool:=if 2<=k then i==k-2 else i%2==1-k
def PlB(w:WD)(b:Nat)(nm:BY)(n:Int):Prop:=w.heap[b]?=some (.cells #[.string nm,.int .i64 n] 351 (0,0))
theorem PlB.cs{w:WD}{b:Nat}{nm:BY}{n:Int}(h:PlB w b nm n):w.cell? ⟨b,0,none⟩=some (.string nm)/\w.cell? ⟨b,1,none⟩=some (.int .i64 n):=by unfold World.cell?;rw[show w.heap[b]?=_ from h];exact⟨rfl,rfl⟩
theorem PlB.lt{w:WD}{b:Nat}{nm:BY}{n:Int}(h:PlB w b nm n):b<w.heap.size:=(Ax h)
theorem PlB.below{w w':WD}{b:Nat}{nm:BY}{n:Int}{g:Nat}(h:PlB w b nm n)(hb:Below g w w')(hg:b<g):PlB w' b nm n:=(hb.block b hg).trans h
theorem alW(k:Nat)(c:Nat):((k:Int).tmod 2==(c:Int))=(k%2==c):=by have e:(k:Int).tmod 2=((k%2:Nat):Int):=rfl;rw[e,Bool.eq_iff_iff];simp only[beq_iff_eq];omega
theorem aeI(k j b:Nat)(w:WD)(hb:PlB w b (Mc k) (plI k:Int)):
  Calls prog 375 #[.int .i64 (j:Int),.pointer (some ⟨b,0,none⟩)] w fun ex w'=>ex=.returned (.bool (plT k j))/\Below w.heap.size w w':=by
 have hcs:=hb.cs;clear hb;by_cases e0:k=0
 .have HV:Hid (((j:Int).tmod 2==1)=plT k j):=by show _=_;unfold plT;rw[if_neg oo,e0];exact alW j 1
  rw[show Mc k=sZ by unfold Mc;rw[if_pos e0],show plI k=0 by unfold plI;rw[if_pos e0]]at hcs;obtain⟨c0,c1⟩:=hcs;unfold sZ at c0;clear e0;go_in;go_wp2_with fail;go_ret;exact⟨aC HV.o,As⟩
 .by_cases e1:k=1
  .have HV:Hid (((j:Int).tmod 2==0)=plT k j):=by show _=_;unfold plT;rw[if_neg oo,e1];exact alW j 0
   rw[show Mc k=l7 by unfold Mc;rw[if_neg e0,if_pos e1],show plI k=0 by unfold plI;rw[if_neg e0,if_pos e1]]at hcs;obtain⟨c0,c1⟩:=hcs;unfold l7 at c0;clear e0 e1;go_in;go_wp2_with fail;go_ret;exact⟨aC HV.o,As⟩
  .have HV:Hid (((j:Int)==((plI k:Nat):Int))=plT k j):=by
    show _=_;unfold plT plI;rw[if_pos (show 2<=k by omega),if_neg e0,if_neg e1,Bool.eq_iff_iff];simp only[beq_iff_eq];omega
   rw[show Mc k=aA by unfold Mc;rw[if_neg e0,if_neg e1]]at hcs;generalize plI k=n at *;obtain⟨c0,c1⟩:=hcs;unfold aA at c0;clear e0 e1;go_in;go_wp2_with fail;go_ret;exact⟨aC HV.o,As⟩
theorem ahw(w:WD)(nm:BY)(n:Int)(o:Obj):PlB ((w.alloc (.cells #[.string nm,.int .i64 n] 351)).alloc o) w.heap.size nm n:=by have q:PlB (w.alloc (.cells #[.string nm,.int .i64 n] 351)) w.heap.size nm n:=heap_alloc_new w _;exact q.below (As.alloc nl _) q.lt
theorem Zq(w:WD)(o:Obj)(v:Av)(T:TypeId):bU ((w.alloc o).alloc (.cells #[v] T)) (w.heap.size+1) v T:=by have q:=bU.new (w.alloc o) v T;rwa[World.size_alloc]at q
theorem NP(w:WD)(o o':Obj):Below w.heap.size w ((w.alloc o).alloc o'):=(As.alloc nl _).alloc Aa _
theorem XM(B:Nat)(p:aI)(a:Option Addr)(cap:Nat)(nm:BY)(n:Int)(t:Nat->Bool)(w:WD)(h:jZ B w p a cap)
  (hf:∀(j b:Nat) (w':WD),PlB w' b nm n->Calls prog 375 #[.int .i64 (j:Int),.pointer (some ⟨b,0,none⟩)] w' fun ex w''=>ex=.returned (.bool (t j))/\Below w'.heap.size w' w''):
  Calls prog 372 #[.agg #[.string nm,.int .i64 n],.agg #[.slice a p.length cap]] w fun ex w'=>ex=.returned (.int .u64 (jq (fun i=>t (qo p i)) p.length:Int))/\Below w.heap.size w w':=by
 have hmf:=nI;have hBw:=h.lt;have B2:Hid (Below w.heap.size w ((w.alloc (.cells #[.string nm,.int .i64 n] 351)).alloc (.cells #[.slice a p.length cap] 66))):=NP _ _ _;have H1:Hid (PlB ((w.alloc (.cells #[.string nm,.int .i64 n] 351)).alloc (.cells #[.slice a p.length cap] 66)) w.heap.size nm n):=ahw _ _ _ _;have V2:bU ((w.alloc (.cells #[.string nm,.int .i64 n] 351)).alloc (.cells #[.slice a p.length cap] 66)) (w.heap.size+1) (.slice a p.length cap) 66:=Zq _ _ _ _;have P2:=hid (h.below B2.o hBw);obtain⟨c0,c1⟩:=H1.o.cs;have c2:=V2.c;have HF:=hid hf;clear V2 h hf
 go_in;go_wp2_with fail;generalize((w.alloc (.cells #[.string nm,.int .i64 n] 351)).alloc (.cells #[.slice a p.length cap] 66))=w2 at *;refine(alU B p a cap _ _ t w2 P2.o (fun _ _=>rfl) ?_).mono ?_
 .intro j _ _ w' hb';exact HF.o j _ w' (H1.o.below hb' H1.o.lt)
 .rintro e wq ⟨rfl,hwq⟩;have B3:=hid (Ay B2.o hwq);clear hwq;go_wp2_with fail;go_ret;exact⟨rfl,B3.o⟩
theorem aeJ(B:Nat)(p:aI)(a:Option Addr)(cap:Nat)(k:Nat)(w:WD)(h:jZ B w p a cap):
  Calls prog 372 #[.agg #[.string (Mc k),.int .i64 (plI k:Int)],.agg #[.slice a p.length cap]] w fun ex w'=>ex=.returned (.int .u64 (jq (fun i=>plT k (qo p i)) p.length:Int))/\Below w.heap.size w w':=
 XM B p a cap _ _ (plT k) w h (fun j b w' hb=>aeI k j b w' hb)
theorem alX(B:Nat)(p:aI)(a:Option Addr)(cap:Nat)(la:Option Addr)(ln lc s:Nat)(w:WD)(h:jZ B w p a cap)
  (hf:∀w',Below w.heap.size w w'->Calls prog 46 #[.slice la ln lc,.agg #[.slice a p.length cap]] w' fun ex w''=>ex=.returned (.int .u64 (s:Int))/\Below w'.heap.size w' w''):
  Calls prog 369 #[.agg #[.slice la ln lc],.agg #[.slice a p.length cap]] w fun ex w'=>ex=.returned (.int .u64 (s:Int))/\Below w.heap.size w w':=by
 have hBw:=h.lt;obtain⟨V1,V2,hb⟩:=iR w (.slice la ln lc) 346 (.slice a p.length cap) 66;have c1:=V1.c;have c2:=V2.c;have B2:=hid hb;have HF:=hid hf;clear V1 V2 hb h hf;go_in;go_wp2_with fail;generalize((w.alloc (.cells #[.slice la ln lc] 346)).alloc (.cells #[.slice a p.length cap] 66))=w2 at *;refine pmb (HF.o w2 B2.o) fun wq hwq=>?_;have B3:=hid (Ay B2.o hwq);clear hwq;go_wp2_with fail;go_ret;exact⟨rfl,B3.o⟩
theorem akc(B:Nat)(p:aI)(a:Option Addr)(cap:Nat)(la:Option Addr)(ln lc s:Nat)(w:WD)(h:jZ B w p a cap)
  (hf:∀w',Below w.heap.size w w'->Calls prog 46 #[.slice la ln lc,.agg #[.slice a p.length cap]] w' fun ex w''=>ex=.returned (.int .u64 (s:Int))/\Below w'.heap.size w' w''):
  Calls prog 365 #[.agg #[.slice la ln lc],.agg #[.slice a p.length cap]] w fun ex w'=>ex=.returned (.int .u64 (Gg (2 ^ p.length-1) s:Int))/\Below w.heap.size w w':=by
 have hlen:=h.len;have hBw:=h.lt;obtain⟨V1,V2,hb⟩:=iR w (.slice la ln lc) 345 (.slice a p.length cap) 66;have d1:=V1.c;have d2:=V2.c;have B2:=hid hb;have HF:=hid hf;clear V1 V2 hb h hf;go_in;go_wp2_with fail;refine wp_region_any An ?_;change wpAny _ _ _ _ _ _ _ (World.drew _);obtain⟨wz,hwz⟩:∃x,World.drew ((w.alloc (.cells #[.slice la ln lc] 345)).alloc (.cells #[.slice a p.length cap] 66))=x:=⟨_,rfl⟩
 have hz:Below ((w.alloc (.cells #[.slice la ln lc] 345)).alloc (.cells #[.slice a p.length cap] 66)).heap.size ((w.alloc (.cells #[.slice la ln lc] 345)).alloc (.cells #[.slice a p.length cap] 66)) wz:=by rw[<-hwz];exact As.drew
 rw[hwz];have BZ:=hid (Ay B2.o hz);have SZ:Hid (wz.cell? ⟨w.heap.size,0,none⟩=some (.slice la ln lc)/\wz.cell? ⟨w.heap.size+1,0,none⟩=some (.slice a p.length cap)):=⟨wS d1 hz,wS d2 hz⟩;clear hz hwz d1 d2 B2;refine wpAny_of_held (S:=fun wx=>wx.cell? ⟨w.heap.size,0,none⟩=some (.slice la ln lc)/\wx.cell? ⟨w.heap.size+1,0,none⟩=some (.slice a p.length cap)) _ _ _ _ ?_;refine dH 0 rfl SZ.o (by intro w hSw;obtain⟨z1,z2⟩:=hSw;exact gs) ?_;refine dH 1 rfl SZ.o (by intro w hSw;obtain⟨z1,z2⟩:=hSw;exact gs) ?_;refine dH 2 rfl SZ.o (by intro w hSw;obtain⟨z1,z2⟩:=hSw;exact gs) ?_;refine dH 3 rfl SZ.o (by intro w hSw;obtain⟨z1,z2⟩:=hSw;exact gs) ?_;refine iW 4 fun K hK=>?_;go_simp
 refine pmb (HF.o wz BZ.o) fun w1 hb1=>?_;have B1:=hid (Ay BZ.o hb1);have S1:Hid (w1.cell? ⟨w.heap.size,0,none⟩=some (.slice la ln lc)/\w1.cell? ⟨w.heap.size+1,0,none⟩=some (.slice a p.length cap)):=⟨wS SZ.o.1 hb1,wS SZ.o.2 hb1⟩;clear hb1;refine hK.o _ _ S1.o (fun _=>?_);clear hK K;refine iW 5 fun K hK=>?_;go_simp;refine pmb (aa6 p.length a cap s w1 hlen.2) fun wq hwq=>?_;have BQ:=hid (Ay B1.o hwq);have SQ:Hid (wq.cell? ⟨w.heap.size,0,none⟩=some (.slice la ln lc)/\wq.cell? ⟨w.heap.size+1,0,none⟩=some (.slice a p.length cap)):=⟨wS S1.o.1 hwq,wS S1.o.2 hwq⟩;clear hwq;refine hK.o _ _ SQ.o (fun _=>?_);clear hK K;refine iW 6 fun K hK=>?_;go_simp;refine hK.o _ _ (SQ.o) (fun _=>?_);clear hK K;refine wpAnyH_done An ?_ _
 go_wp2_with fail;go_ret;exact⟨rfl,BQ.o⟩
def lsS(S:List Step->Nat)(s:Nat):bY->Nat
 |[]=>s
 |c::r=>lsS S (s ||| S c) r
theorem aeK(S:List Step->Nat)(s:Nat){l:bY}{i:Nat}(h:i<l.length):lsS S s (l.drop i)=lsS S (s ||| S l[i]) (l.drop (i+1)):=by rw[List.drop_eq_getElem_cons h];rfl
theorem Zr(s t:Nat)(h:s<18446744073709551616)(ht:t<18446744073709551616):s ||| t<18446744073709551616:=by
 have e:(18446744073709551616:Nat)=2 ^ 64:=by decide
 rw[e]at h ht⊢;exact Nat.or_lt_two_pow h ht
theorem aeL(S:List Step->Nat)(hS:∀c,S c<18446744073709551616):∀(l:bY) (s:Nat),s<18446744073709551616->lsS S s l<18446744073709551616
 |[],_,h=>h
 |c::r,s,h=>aeL S hS r _ (Zr s _ h (hS c))
theorem aiy(f B:Nat)(S:List Step->Nat)(l:bY)(v:Av)(p:aI)(a:Option Addr)(cap:Nat)(w:WD)(h:SG (AA (aQ f)) 1 (fun b=>b<B) w v l)(hp:jZ B w p a cap)(hS:∀c,S c<18446744073709551616)
  (hC:∀c∈l,∀(cv:Av) (w':WD),Below w.heap.size w w'->SG (fO (aQ f)) 2 (fun b=>b<B) w' cv c->Calls prog 74 #[cv,.agg #[.slice a p.length cap]] w' fun ex w''=>ex=.returned (.int .u64 (S c:Int))/\Below w'.heap.size w' w''):
  Calls prog 46 #[v,.agg #[.slice a p.length cap]] w fun ex w'=>ex=.returned (.int .u64 (lsS S 0 l:Int))/\Below w.heap.size w w':=by
 have hl:=h.len;have hlen:=hp.len;have hBw:=hp.lt;have B0:Hid (Below w.heap.size w (w.alloc (.cells #[.slice a p.length cap] 66))):=As.alloc nl _;have V0:Hid (bU (w.alloc (.cells #[.slice a p.length cap] 66)) w.heap.size (.slice a p.length cap) 66):=bU.new _ _ _;have hF:Hid (Fair (AA (aQ f))):=One.fair (fO.fair (aQ.fair f));have HS:=hid (h.below hF.o B0.o hBw);have HCC:=hid hC;have HSL:=hid hS;obtain⟨ca,cc,rfl⟩:=h.form;clear h hp hC hS;obtain⟨R,HR⟩:=Nm (lsS S 0 l);rw[HR.o]
 go_in;go_wp2_with fail;generalize hw0:w.alloc (.cells #[.slice a p.length cap] 66)=w0 at *;have hs0:w0.heap.size=w.heap.size+1:=by rw[<-hw0];simp
 clear hw0;obtain⟨pb,Hpb⟩:=Nm w.heap.size;have hpb:=Hpb.o;rw[hpb]at V0;rw[hpb];go_loopg[5,10] l.length (fun gg v5 v10 wr=>∃(s i:Nat),v5=.int .u64 (s:Int)/\v10=.int .i64 (i:Int)/\i+gg=l.length/\s<18446744073709551616/\Aside (lsS S s (l.drop i)=R/\Below w0.heap.size w0 wr));case atStart=>exact⟨0,0,rfl,rfl,oo,oo,HR.o,As⟩
 case round=>
  obtain⟨go,hgo⟩:∃go,go=gk:=⟨_,rfl⟩;obtain⟨s,i,rfl,rfl,hi,hs,hA⟩:=hrel;have HC:Hid (lsS S s (l.drop i)=R/\Below w0.heap.size w0 wr):=hA.o;clear hA;have hsr:=HC.o.2.size;by_cases hlt:i<l.length
  .have h1:(i:Int)<(l.length:Int):=oo;have hS5:=HS.o.below hF.o HC.o.2 oo;obtain⟨g,o,rfl,hL,hcap⟩:=hS5.here (by rintro rfl;simp at hlt);obtain⟨cv,d0,hcv,hgB⟩:=hL.cxq (i:=i) hlt;have agf:g<B:=hgB;have BW:Hid (Below w.heap.size w wr):=by
    have q:Below w0.heap.size w0 wr:=HC.o.2;exact B0.o.trans (q.mono oo)
   have hcc:=HCC.o l[i] (List.getElem_mem hlt) cv wr BW.o hcv;have HD:Hid (lsS S s (l.drop i)=lsS S (s ||| S l[i]) (l.drop (i+1))):=aeK S s hlt;have ht:=HSL.o l[i];generalize S l[i]=t at *;obtain⟨la,lc,rfl⟩:=hcv.form;generalize l[i].length=ln at *;have sH:=hid hcc;have HE:=hid (HD.o.symm.trans HC.o.1);have HB:=hid (bits_or_u64_nat s t hs ht);have hst:s ||| t<18446744073709551616:=Zr s t hs ht;have V2:=hid (V0.o.below HC.o.2 oo);have c0:=V2.o.c;clear hcv hcc HD hL hS5;go_wp2_with fail;refine sH.o.mono ?_;rintro e w6 ⟨rfl,hb6⟩;have X6:=hid (HC.o.2.trans (hb6.mono hsr))
   clear hb6 sH c0 d0;go_wp2_with fail;go_roundg(go-1);case measure=>omega
   case rel=>exact⟨s ||| t,i+1,by rw[HB.o],by congr 1,oo,hst,HE.o,X6.o⟩
  .have h1:(l.length:Int)<=(i:Int):=oo;have HV:Hid (s=R):=by
    show _=_;rw[<-HC.o.1,List.drop_of_length_le (show l.length<=i by omega)];rfl
   have BE:Hid (Below w.heap.size w wr):=by have:Below w0.heap.size w0 wr:=HC.o.2;exact B0.o.trans (this.mono oo)
   go_wp2_with fail;go_ret;exact⟨by rw[HV.o];rfl,BE.o⟩
def GN(p:aI)(cb s:Nat):Nat:=
 if cb=32 then mD p s p.length
 else if cb=62 then jq (fun i=>hasB s (parentOf p i)) p.length
 else if cb=43 then jq (fun i=>wR p s i) p.length
 else if cb=126 then jq (fun i=>(Sp.ahead p i).any fun j=>s.testBit j) p.length
 else 2 ^ p.length-1
theorem aeM(p:aI)(cb s:Nat)(hp:p.length<=30):GN p cb s<18446744073709551616:=by
 unfold GN;have:=wB p.length hp;repeat' split
 all_goals first|omega|exact EO p s _ hp|exact uJ _ _ hp
theorem ahx(B:Nat)(p:aI)(a:Option Addr)(cap cb s:Nat)(w:WD)(h:jZ B w p a cap)(hs:s<18446744073709551616):
  Calls prog 127 #[.int .i64 (sG cb),.int .u64 (s:Int),.agg #[.slice a p.length cap]] w fun ex w'=>ex=.returned (.int .u64 (GN p cb s:Int))/\Below w.heap.size w w':=by
 have B0:Hid (Below w.heap.size w (w.alloc (.cells #[.slice a p.length cap] 66))):=As.alloc nl _;have V0:Hid (bU (w.alloc (.cells #[.slice a p.length cap] 66)) w.heap.size (.slice a p.length cap) 66):=bU.new _ _ _;have hlen:=h.len;have wX:Hid (jZ B (w.alloc (.cells #[.slice a p.length cap] 66)) p a cap):=h.alloc _;have hsz:=B0.o.size;clear h;have c0:=V0.o.c;by_cases e0:cb=32
 .have HV:Hid (GN p cb s=mD p s p.length):=by show _=_;unfold GN;rw[if_pos e0]
  rw[show sG cb=1 by unfold sG;rw[if_pos e0],HV.o];clear HV e0;go_in;go_wp2_with fail;generalize w.alloc (.cells #[.slice a p.length cap] 66)=w0 at *;refine pmb (ag5 B p a cap s _ wX.o hs) fun wq hwq=>?_;have B3:=hid (B0.o.trans (hwq.mono hsz));clear hwq;go_wp2_with fail;go_ret;exact⟨rfl,B3.o⟩
 by_cases e1:cb=62
 .have HV:Hid (GN p cb s=jq (fun i=>hasB s (parentOf p i)) p.length):=by show _=_;unfold GN;rw[if_neg e0,if_pos e1]
  rw[show sG cb=2 by unfold sG;rw[if_neg e0,if_pos e1],HV.o];clear HV e0 e1;go_in;go_wp2_with fail;generalize w.alloc (.cells #[.slice a p.length cap] 66)=w0 at *;refine pmb (XL B p a cap s _ wX.o hs) fun wq hwq=>?_;have B3:=hid (B0.o.trans (hwq.mono hsz));clear hwq;go_wp2_with fail;go_ret;exact⟨rfl,B3.o⟩
 by_cases e2:cb=43
 .have HV:Hid (GN p cb s=jq (fun i=>wR p s i) p.length):=by show _=_;unfold GN;rw[if_neg e0,if_neg e1,if_pos e2]
  rw[show sG cb=3 by unfold sG;rw[if_neg e0,if_neg e1,if_pos e2],HV.o];clear HV e0 e1 e2;go_in;go_wp2_with fail;generalize w.alloc (.cells #[.slice a p.length cap] 66)=w0 at *;refine pmb (aj8 B p a cap s _ wX.o hs) fun wq hwq=>?_;have B3:=hid (B0.o.trans (hwq.mono hsz));clear hwq;go_wp2_with fail;go_ret;exact⟨rfl,B3.o⟩
 by_cases e3:cb=126
 focus
  have HV:Hid (GN p cb s=jq (fun i=>(Sp.ahead p i).any fun j=>s.testBit j) p.length):=by show _=_;unfold GN;rw[if_neg e0,if_neg e1,if_neg e2,if_pos e3]
  rw[show sG cb=4 by unfold sG;rw[if_neg e0,if_neg e1,if_neg e2,if_pos e3],HV.o];clear HV e0 e1 e2 e3;go_in;go_wp2_with fail;generalize w.alloc (.cells #[.slice a p.length cap] 66)=w0 at *;refine(aeD B p a cap s _ wX.o hs).mono ?_
 rotate_left;focus
  have HV:Hid (GN p cb s=2 ^ p.length-1):=by show _=_;unfold GN;rw[if_neg e0,if_neg e1,if_neg e2,if_neg e3]
  rw[show sG cb=0 by unfold sG;rw[if_neg e0,if_neg e1,if_neg e2,if_neg e3],HV.o];clear HV e0 e1 e2 e3;go_in;go_wp2_with fail;generalize w.alloc (.cells #[.slice a p.length cap] 66)=w0 at *;refine(TP p.length a cap _ hlen.2).mono ?_
 rotate_left;all_goals
  rintro e wq ⟨rfl,hwq⟩;have B3:=hid (B0.o.trans (hwq.mono hsz));clear hwq;go_wp2_with fail;go_ret;exact⟨rfl,B3.o⟩
def atF(nm:BY)(ft:BY->Bool):List (BY×BY)->Bool
 |[]=>false
 |y::r=>if y.1=nm then ft y.2 else atF nm ft r
def AtB(w:WD)(b:Nat)(nm how v:BY):Prop:=w.heap[b]?=some (.cells #[.string nm,.string how,.string v] 341 (0,0))
theorem AtB.cs{w:WD}{b:Nat}{nm how v:BY}(h:AtB w b nm how v):w.cell? ⟨b,0,none⟩=some (.string nm)/\w.cell? ⟨b,1,none⟩=some (.string how)/\w.cell? ⟨b,2,none⟩=some (.string v):=by unfold World.cell?;rw[show w.heap[b]?=_ from h];exact⟨rfl,rfl,rfl⟩
theorem AtB.lt{w:WD}{b:Nat}{nm how v:BY}(h:AtB w b nm how v):b<w.heap.size:=(Ax h)
theorem AtB.below{w w':WD}{b:Nat}{nm how v:BY}{g:Nat}(h:AtB w b nm how v)(hb:Below g w w')(hg:b<g):AtB w' b nm how v:=(hb.block b hg).trans h
def A2z(w:WD)(b:Nat)(x y:BY):Prop:=w.heap[b]?=some (.cells #[.string x,.string y] 96 (0,0))
theorem A2z.new(w:WD)(x y:BY):A2z (w.alloc (.cells #[.string x,.string y] 96)) w.heap.size x y:=heap_alloc_new w _
theorem A2z.cs{w:WD}{b:Nat}{x y:BY}(h:A2z w b x y):w.cell? ⟨b,0,none⟩=some (.string x)/\w.cell? ⟨b,1,none⟩=some (.string y):=by unfold World.cell?;rw[show w.heap[b]?=_ from h];exact⟨rfl,rfl⟩
theorem ahy(B:Nat)(x:Elem)(ca:Option Addr)(cl cc:Nat)(av:Av)(nm how v:BY)(ft:BY->Bool)(tb:Nat)(w:WD)(hb:AtB w tb nm how v)(hA:SG qH 2 (fun b=>b<B) w av x.attrs)(hB:B<=w.heap.size)(hv:∀y∈x.attrs,dK y.2=true)
  (hf:∀(y:BY) (w':WD),dK y=true->Below w.heap.size w w'->Calls prog 346 #[.agg #[.string nm,.string how,.string v],.string y] w' fun ex w''=>ex=.returned (.bool (ft y))/\Below w'.heap.size w' w''):
  Calls prog 345 #[Gh x (.slice ca cl cc) av,.pointer (some ⟨tb,0,none⟩)] w fun ex w'=>ex=.returned (.bool (atF nm ft x.attrs))/\Below w.heap.size w w':=by
 have hl:=hA.len;obtain⟨aa,ac,rfl⟩:=hA.form;unfold Gh;have X0:Hid (XE (w.alloc (.cells #[.int .i64 x.parent,.string x.tag,.string x.id,.slice ca cl cc,.slice aa x.attrs.length ac] 35)) w.heap.size x (.slice ca cl cc) (.slice aa x.attrs.length ac)):=heap_alloc_new w _;have B0:Hid (Below w.heap.size w (w.alloc (.cells #[.int .i64 x.parent,.string x.tag,.string x.id,.slice ca cl cc,.slice aa x.attrs.length ac] 35))):=As.alloc nl _;have A0:=hid (hA.below qH.fair B0.o hB);have T0:=hid (hb.below B0.o hb.lt);have htb:=hb.lt
 have HF:=hid hf;have HVP:=hid hv;clear hA hb hf hv;obtain⟨d0,d1,d2,d3,d4⟩:=X0.o.cs;obtain⟨R,HR⟩:=Nm (atF nm ft x.attrs);rw[HR.o];go_in;go_upto_region 1 with fail
 generalize hw0:w.alloc (.cells #[.int .i64 x.parent,.string x.tag,.string x.id,.slice ca cl cc,.slice aa x.attrs.length ac] 35)=w0 at *;have hs0:w0.heap.size=w.heap.size+1:=by rw[<-hw0];simp
 clear hw0;go_wp2_with fail;clear d0 d1 d2 d3 d4 X0;generalize x.attrs=l at *;go_loopg[9] l.length (fun gg v9 wr=>∃(i:Nat),v9=.int .i64 (i:Int)/\i+gg=l.length/\Aside (atF nm ft (l.drop i)=R/\Below w0.heap.size w0 wr));case atStart=>exact⟨0,rfl,oo,HR.o,As⟩
 case round=>
  obtain⟨go,hgo⟩:∃go,go=gk:=⟨_,rfl⟩;obtain⟨i,rfl,hi,hA⟩:=hrel;have HC:Hid (atF nm ft (l.drop i)=R/\Below w0.heap.size w0 wr):=hA.o;clear hA;have hsr:=HC.o.2.size;by_cases hlt:i<l.length
  .have h1:(i:Int)<(l.length:Int):=oo;have hS5:=A0.o.below qH.fair HC.o.2 oo;obtain⟨g,o,rfl,hL,hcap⟩:=hS5.here (by rintro rfl;simp at hlt);obtain⟨hgB,e0,e1,_,_⟩:=hL.att (i:=i) hlt;have agf:g<B:=hgB;obtain⟨y,hy⟩:∃y,y=l[i]:=⟨_,rfl⟩;have hvy:dK y.2=true:=by rw[hy];exact HVP.o _ (List.getElem_mem hlt)
   have Hdr:Hid (l.drop i=y::l.drop (i+1)):=by show _=_;rw[hy];exact List.drop_eq_getElem_cons hlt
   rw[<-hy]at e0 e1;clear hL hy hS5;obtain⟨y1,y2⟩:=y;have HVY:=hid hvy;clear hvy;have e0':wr.cell? ⟨g,o+i*2,none⟩=some (.string y1):=e0;have e1':wr.cell? ⟨g,o+i*2+1,none⟩=some (.string y2):=e1;have HD:Hid ((if y1=nm then ft y2 else atF nm ft (l.drop (i+1)))=R):=by show _=_;rw[<-HC.o.1,Hdr.o];rfl
   clear e0 e1 Hdr;have T2:Hid (A2z (wr.alloc (.cells #[.string y1,.string y2] 96)) wr.heap.size y1 y2):=A2z.new _ _ _;have X2:Hid (Below w0.heap.size w0 (wr.alloc (.cells #[.string y1,.string y2] 96))):=HC.o.2.alloc hsr _;go_upto_region 4 with fail
   generalize wr.alloc (.cells #[.string y1,.string y2] 96)=w2 at *;obtain⟨gt,mV⟩:=Nm wr.heap.size;have T3:Hid (A2z w2 gt y1 y2):=by rw[<-mV.o];exact T2.o
   rw[mV.o];clear T2 e0' e1';obtain⟨a0,a1⟩:=T3.o.cs;obtain⟨t0,t1,t2⟩:=(T0.o.below X2.o oo).cs;have hs2:=X2.o.size;have hnm:(y1.toList==nm.toList)=decide (y1=nm):=bytes_beq _ _;by_cases en:y1=nm
   .rw[decide_eq_true en]at hnm;have HV:Hid (ft y2=R):=by rw[<-HD.o,if_pos en];exact rfl
    have BW:=hid (B0.o.trans (X2.o.mono oo));have sH:=HF.o y2 w2 HVY.o BW.o;rw[HV.o]at sH;have HC2:=hid sH;clear sH en HD;go_wp2_with fail;refine HC2.o.mono ?_;rintro e w6 ⟨rfl,hb6⟩;have X6:=hid (BW.o.trans (hb6.mono oo));clear hb6;go_wp2_with fail;go_ret;exact⟨rfl,X6.o⟩
   .rw[decide_eq_false en]at hnm;have HV:Hid (atF nm ft (l.drop (i+1))=R):=by rw[<-HD.o,if_neg en];exact rfl
    clear en HD;go_wp2_with fail;go_roundg(go-1);case measure=>omega
    case rel=>exact⟨i+1,by congr 1,oo,HV.o,X2.o⟩
  .have h1:(l.length:Int)<=(i:Int):=oo;have HV:Hid (false=R):=by
    show _=_;rw[<-HC.o.1,List.drop_of_length_le (show l.length<=i by omega)];rfl
   have BE:Hid (Below w.heap.size w wr):=by have:Below w0.heap.size w0 wr:=HC.o.2;exact B0.o.trans (this.mono oo)
   go_wp2_with fail;go_ret;exact⟨by rw[<-HV.o];rfl,BE.o⟩
theorem aby{p:aI}(h:iL p=true){i:Nat}(hi:i<p.length):∀y∈p[i].attrs,dK y.2=true:=by unfold iL at h;simp only[Bool.and_eq_true]at h;have h1:=Eo p 0 i h.2 hi;unfold xC at h1;simp only[Bool.and_eq_true,List.all_eq_true]at h1;intro y hy;exact(h1.2 y hy).1.2
theorem ahz(w:WD)(nm how v:BY)(o:Obj):AtB ((w.alloc (.cells #[.string nm,.string how,.string v] 341)).alloc o) w.heap.size nm how v:=by have q:AtB (w.alloc (.cells #[.string nm,.string how,.string v] 341)) w.heap.size nm how v:=heap_alloc_new w _;exact q.below (As.alloc nl _) q.lt
theorem ahA(B:Nat)(p:aI)(a:Option Addr)(cap:Nat)(nm how v:BY)(ft:BY->Bool)(w:WD)(h:jZ B w p a cap)
  (hf:∀(y:BY) (w':WD),dK y=true->Below w.heap.size w w'->Calls prog 346 #[.agg #[.string nm,.string how,.string v],.string y] w' fun ex w''=>ex=.returned (.bool (ft y))/\Below w'.heap.size w' w''):
  Calls prog 342 #[.agg #[.string nm,.string how,.string v],.agg #[.slice a p.length cap]] w fun ex w'=>ex=.returned (.int .u64 (jq (TQ p (fun x=>atF nm ft x.attrs)) p.length:Int))/\Below w.heap.size w w':=by
 have hmf:=nI;have hBw:=h.lt;have B2:Hid (Below w.heap.size w ((w.alloc (.cells #[.string nm,.string how,.string v] 341)).alloc (.cells #[.slice a p.length cap] 66))):=NP _ _ _;have H1:Hid (AtB ((w.alloc (.cells #[.string nm,.string how,.string v] 341)).alloc (.cells #[.slice a p.length cap] 66)) w.heap.size nm how v):=ahz _ _ _ _ _;have V2:bU ((w.alloc (.cells #[.string nm,.string how,.string v] 341)).alloc (.cells #[.slice a p.length cap] 66)) (w.heap.size+1) (.slice a p.length cap) 66:=Zq _ _ _ _;have P2:=hid (h.below B2.o hBw);obtain⟨c0,c1,c3⟩:=H1.o.cs;have c2:=V2.c
 have HF:=hid hf;clear V2 h hf;go_in;go_wp2_with fail;generalize((w.alloc (.cells #[.string nm,.string how,.string v] 341)).alloc (.cells #[.slice a p.length cap] 66))=w2 at *;refine(GK B p a cap _ _ (fun x=>atF nm ft x.attrs) w2 P2.o (fun _ _=>rfl) ?_).mono ?_
 .intro i hi cv av w' hb' hcv hav;obtain⟨ca,cc,rfl⟩:=hcv.form;exact ahy B _ _ _ _ _ nm how v ft _ w' (H1.o.below hb' H1.o.lt) hav (Nat.le_trans P2.o.lt hb'.size) (aby P2.o.pg hi) (fun y w'' hy aea=>HF.o y w'' hy ((Ay B2.o hb').trans (aea.mono (Nat.le_trans B2.o.size hb'.size))))
 .rintro e wq ⟨rfl,hwq⟩;have B3:=hid (Ay B2.o hwq);clear hwq;go_wp2_with fail;go_ret;exact⟨rfl,B3.o⟩
def Zt(P:Simple->Nat)(s:Nat):List Simple->Nat
 |[]=>s
 |x::r=>Zt P (s &&& P x) r
def Kv(p:aI)(P:Simple->Nat)(s:Nat):List Step->Nat
 |[]=>s
 |(cb,all)::r=>Kv p P (Zt P (GN p cb s) all) r
theorem aeN(P:Simple->Nat)(s:Nat){l:List Simple}{i:Nat}(h:i<l.length):Zt P s (l.drop i)=Zt P (s &&& P l[i]) (l.drop (i+1)):=by rw[List.drop_eq_getElem_cons h];rfl
theorem aeO(p:aI)(P:Simple->Nat)(s:Nat){l:List Step}{i:Nat}(h:i<l.length):Kv p P s (l.drop i)=Kv p P (Zt P (GN p l[i].1 s) l[i].2) (l.drop (i+1)):=by rw[List.drop_eq_getElem_cons h];generalize l[i]=st;obtain⟨cb,all⟩:=st;rfl
theorem aeP(P:Simple->Nat):∀(l:List Simple) (s:Nat),s<18446744073709551616->Zt P s l<18446744073709551616
 |[],_,h=>h
 |_::r,s,h=>aeP P r _ (TR s _ h)
theorem PK(p:aI)(P:Simple->Nat)(hp:p.length<=30):∀(l:List Step) (s:Nat),s<18446744073709551616->Kv p P s l<18446744073709551616
 |[],_,h=>h
 |(cb,all)::r,s,_=>PK p P hp r _ (aeP P all _ (aeM p cb s hp))
def XO(f B:Nat)(p:aI)(a:Option Addr)(cap:Nat)(w:WD)(P:Simple->Nat):Prop:=
 ∀(x:Simple) (w':WD),Below w.heap.size w w'->∀pv,aQ f (fun b=>b<B) w' x [pv] ->
  ∃ T u K rcv, pv = .iface T u ∧ (∀ W : WD, (method 503 T u "rinse/selectors.on").run prog W = .ok (K, rcv) W) ∧ (∀ (args : Array Av) (W : WD), (callFunc K args).run prog W = .ok (.enter K args) W) ∧
   Calls prog K #[rcv,.agg #[.slice a p.length cap]] w' fun e w''=>e=.returned (.int .u64 (P x:Int))/\Below w'.heap.size w' w''
theorem aeQ(f B:Nat)(P:Simple->Nat)(cx:List Step)(v:Av)(p:aI)(a:Option Addr)(cap:Nat)(w:WD)(h:SG (fO (aQ f)) 2 (fun b=>b<B) w v cx)(hp:jZ B w p a cap)(hP:∀x,P x<18446744073709551616)(hr:XO f B p a cap w P):
  Calls prog 74 #[v,.agg #[.slice a p.length cap]] w fun ex w'=>ex=.returned (.int .u64 (Kv p P 0 cx:Int))/\Below w.heap.size w w':=by
 have hl:=h.len;have hlen:=hp.len;have hBw:=hp.lt;have B0:Hid (Below w.heap.size w (w.alloc (.cells #[.slice a p.length cap] 66))):=As.alloc nl _;have V0:Hid (bU (w.alloc (.cells #[.slice a p.length cap] 66)) w.heap.size (.slice a p.length cap) 66):=bU.new _ _ _;have wX:Hid (jZ B (w.alloc (.cells #[.slice a p.length cap] 66)) p a cap):=hp.alloc _;have hF:Hid (Fair (fO (aQ f))):=fO.fair (aQ.fair f);have hF2:Hid (Fair (aQ f)):=aQ.fair f;have HS:=hid (h.below hF.o B0.o hBw);have HRD:Hid (XO f B p a cap w P):=hr;have HPL:Hid (∀x,P x<18446744073709551616):=hP;obtain⟨ca,cc,rfl⟩:=h.form;clear h hp hr hP;obtain⟨R,HR⟩:=Nm (Kv p P 0 cx);rw[HR.o];go_in;go_wp2_with fail
 generalize hw0:w.alloc (.cells #[.slice a p.length cap] 66)=w0 at *;have hs0:w0.heap.size=w.heap.size+1:=by rw[<-hw0];simp
 clear hw0;obtain⟨pb,Hpb⟩:=Nm w.heap.size;have hpb:=Hpb.o;rw[hpb]at V0;rw[hpb];go_loopg[5,12] cx.length (fun gg v5 v12 wr=>∃(s i:Nat),v5=.int .u64 (s:Int)/\v12=.int .i64 (i:Int)/\i+gg=cx.length/\s<18446744073709551616/\Aside (Kv p P s (cx.drop i)=R/\Below w0.heap.size w0 wr));case atStart=>exact⟨0,0,rfl,rfl,oo,oo,HR.o,As⟩
 case round=>
  obtain⟨go,hgo⟩:∃go,go=gk:=⟨_,rfl⟩;obtain⟨s,i,rfl,rfl,hi,hs,hA⟩:=hrel;have HC:Hid (Kv p P s (cx.drop i)=R/\Below w0.heap.size w0 wr):=hA.o;clear hA;have hsr:=HC.o.2.size;by_cases hlt:i<cx.length
  .have h1:(i:Int)<(cx.length:Int):=oo;obtain⟨g,o,rfl,hL,hcap⟩:=HS.o.here (by rintro rfl;simp at hlt);obtain⟨av,d0,d1,hav,hgB⟩:=hL.stq (i:=i) hlt;have agf:g<B:=hgB;rw[<-HC.o.2.cell (p:=⟨g,_,none⟩) (show g<w0.heap.size by omega)]at d0 d1;have HD:Hid (Kv p P s (cx.drop i)=Kv p P (Zt P (GN p cx[i].1 s) cx[i].2) (cx.drop (i+1))):=aeO p P s hlt;generalize cx[i]=st at *;obtain⟨cb,all⟩:=st;have Ze:Hid (Kv p P (Zt P (GN p cb s) all) (cx.drop (i+1))=R):=HD.o.symm.trans HC.o.1;have PL:SG (aQ f) 1 (fun b=>b<B) w0 av all:=hav;have HAV:=hid PL;have hal:=PL.len;obtain⟨la,lc,rfl⟩:=PL.form;have d0':wr.cell? ⟨g,o+i*2,none⟩=some (.int .i64 (sG cb)):=d0;clear hav PL hL HD d0
   have T2:Hid (Vj (wr.alloc (.cells #[.int .i64 (sG cb),.slice la all.length lc] 219)) wr.heap.size (.int .i64 (sG cb)) (.slice la all.length lc)):=Vj.new _ _ _;have X2:Hid (Below w0.heap.size w0 (wr.alloc (.cells #[.int .i64 (sG cb),.slice la all.length lc] 219))):=HC.o.2.alloc hsr _;go_upto_region 5 with fail
   generalize wr.alloc (.cells #[.int .i64 (sG cb),.slice la all.length lc] 219)=w2 at *;obtain⟨gt,mV⟩:=Nm wr.heap.size;have T3:Hid (Vj w2 gt (.int .i64 (sG cb)) (.slice la all.length lc)):=by rw[<-mV.o];exact T2.o
   rw[mV.o];clear T2 d0' d1;obtain⟨a0,a1⟩:=T3.o.cs;have hs2:=X2.o.size;have V2:Hid (bU w2 pb (.slice a p.length cap) 66):=V0.o.below X2.o oo;have c0:=V2.o.c;have P2:=hid (wX.o.below X2.o wX.o.lt);go_wp2_with fail;refine(ahx B p a cap cb s _ P2.o hs).mono ?_;obtain⟨s1,Az⟩:=Nm (GN p cb s);have hs1:s1<18446744073709551616:=by rw[<-Az.o];exact aeM p cb s hlen.2
   rw[Az.o];rw[Az.o]at Ze;rintro e w3 ⟨rfl,hb3⟩;have X3:=hid (X2.o.trans (hb3.mono hs2));have T4:Hid (Vj w3 gt (.int .i64 (sG cb)) (.slice la all.length lc)):=T3.o.below hb3;clear hb3 a0 a1 c0 T3 V2 P2;obtain⟨a0,a1⟩:=T4.o.cs;go_wp2_with fail;go_loopg[5,24] all.length (fun gg v5 v24 wr=>∃(s m:Nat),v5=.int .u64 (s:Int)/\v24=.int .i64 (m:Int)/\m+gg=all.length/\s<18446744073709551616/\Aside (Kv p P (Zt P s (all.drop m)) (cx.drop (i+1))=R/\Below w0.heap.size w0 wr));case atStart=>exact⟨s1,0,rfl,rfl,oo,hs1,Ze.o,X3.o⟩
   case round=>
    obtain⟨gi,hgi⟩:∃gi,gi=gk:=⟨_,rfl⟩;obtain⟨s2,m,rfl,rfl,hm,hsm,hA⟩:=hrel;have xg:Hid (Kv p P (Zt P s2 (all.drop m)) (cx.drop (i+1))=R/\Below w0.heap.size w0 wr):=hA.o;clear hA;have ai9:=xg.o.2.size;by_cases hlm:m<all.length
    .have h2:(m:Int)<(all.length:Int):=oo;have QY:=HAV.o.below hF2.o xg.o.2 oo;obtain⟨g5,o5,rfl,hL5,hcap5⟩:=QY.here (by rintro rfl;simp at hlm);obtain⟨pv,c5,hps,_⟩:=hL5.prq (i:=m) hlm;have HAD:=aeN P s2 hlm;generalize all[m]=x at *;have V5:Hid (bU wr pb (.slice a p.length cap) 66):=V0.o.below xg.o.2 oo;have c0:=V5.o.c;have BW5:Below w.heap.size w wr:=by
      have q:Below w0.heap.size w0 wr:=xg.o.2;exact B0.o.trans (q.mono oo)
     obtain⟨T,pu,K,rcv,rfl,YD,hcall,hC⟩:=HRD.o x wr BW5 _ hps;have sH:Hid (Calls prog K #[rcv,.agg #[.slice a p.length cap]] wr fun e w''=>e=.returned (.int .u64 (P x:Int))/\Below wr.heap.size wr w''):=hC;obtain⟨t,Ht⟩:=Nm (P x);have ht:t<18446744073709551616:=by rw[<-Ht.o];exact HPL.o x
     have HE:Hid (Kv p P (Zt P (s2 &&& t) (all.drop (m+1))) (cx.drop (i+1))=R):=by show _=_;rw[<-xg.o.1,HAD,<-Ht.o]
     have HB:Hid (bits .and .u64 (s2:Int) (t:Int)=((s2 &&& t:Nat):Int)):=bits_and_u64_nat s2 t hsm ht;have hst:s2 &&& t<18446744073709551616:=TR s2 t hsm;rw[Ht.o]at sH;clear hps hC HAD hL5 QY BW5;go_wp2_with fail;refine sH.o.mono ?_;rintro e w6 ⟨rfl,hb6⟩;have X6:=hid (xg.o.2.trans (hb6.mono ai9));clear hb6 sH YD hcall c5 c0;go_wp2_with fail;go_roundg(gi-1);case measure=>omega
     case rel=>exact⟨s2 &&& t,m+1,by rw[HB.o],by congr 1,oo,hst,HE.o,X6.o⟩
    .have h2:(all.length:Int)<=(m:Int):=oo;have HE:Hid (Kv p P s2 (cx.drop (i+1))=R):=by
      show _=_;rw[<-xg.o.1,List.drop_of_length_le (show all.length<=m by omega)];rfl
     go_wp2_with fail;go_roundg(go-1);case measure=>omega
     case rel=>exact⟨s2,i+1,rfl,by congr 1,oo,hsm,HE.o,xg.o.2⟩
  .have h1:(cx.length:Int)<=(i:Int):=oo;have HV:Hid (s=R):=by
    show _=_;rw[<-HC.o.1,List.drop_of_length_le (show cx.length<=i by omega)];rfl
   have BE:Hid (Below w.heap.size w wr):=by have:Below w0.heap.size w0 wr:=HC.o.2;exact B0.o.trans (this.mono oo)
   go_wp2_with fail;go_ret;exact⟨by rw[HV.o];rfl,BE.o⟩
abbrev lI:=BY->BY->BY->Bool
def pJ(F:lI)(w:WD):Prop:=∀(nm how v y:BY) (w':WD),dK y=true->Below w.heap.size w w'->Calls prog 346 #[.agg #[.string nm,.string how,.string v],.string y] w' fun ex w''=>ex=.returned (.bool (F how v y))/\Below w'.heap.size w' w''
theorem pJ.below{F:lI}{w w':WD}(h:pJ F w)(hb:Below w.heap.size w w'):pJ F w':=fun nm how v y w'' hy hb'=>h nm how v y w'' hy (hb.trans (hb'.mono hb.size))
def NQ(F:lI)(p:aI)(L:bY->Nat)(k:Nat)(nm how v:BY)(l:bY)(pl:Nat):Nat:=
  if k=116\/k=35\/k=46 then onS p k nm
  else if k=91 then jq (TQ p (fun x=>atF nm (F how v) x.attrs)) p.length
  else if nm=nD then Gg (2 ^ p.length-1) (L l)
  else if nm=DY then L l
  else if nm=nG then jq (fun i=>plT pl (qo p i)) p.length
  else stS p nm
def Us(F:lI)(p:aI)(L:bY->Nat):Simple->Nat
 |.mk k nm how v l pl=>NQ F p L k nm how v l pl
theorem DN(F:lI)(p:aI)(L:bY->Nat)(k:Nat)(nm how v:BY)(l:bY)(pl:Nat):Us F p L (.mk k nm how v l pl)=NQ F p L k nm how v l pl:=rfl
def Me(F:lI)(p:aI):Nat->Simple->Nat
 |0=>Us F p (fun _=>0)
 |n+1=>Us F p (fun l=>lsS (Kv p (Me F p n) 0) 0 l)
theorem akd(p:aI)(nm:BY)(hp:p.length<=30):stS p nm<18446744073709551616:=by
 unfold stS;repeat' split
 all_goals first|omega|exact uJ _ _ hp|exact Zp p hp _|exact aht p hp _
theorem Ut(F:lI)(p:aI)(L:bY->Nat)(hp:p.length<=30)(hL:∀l,L l<18446744073709551616):∀x,Us F p L x<18446744073709551616:=by
 rintro ⟨k,nm,how,v,l,pl⟩;rw[DN];unfold NQ;repeat' split
 all_goals first|exact ajO p _ _ hp|exact uJ _ _ hp|exact GI _ _|exact hL _|exact akd p _ hp
theorem aeR(F:lI)(p:aI)(hp:p.length<=30):∀n x,Me F p n x<18446744073709551616
 |0,x=>Ut F p _ hp (fun _=>by decide) x
 |n+1,x=>Ut F p _ hp (fun l=>aeL _ (fun c=>PK p _ hp c 0 Ab) l 0 Ab) x
theorem ahB (nm how v : BY) (W : WD) : (method 503 341 (.agg #[.string nm, .string how, .string v]) "rinse/selectors.on").run prog W = .ok (342, .agg #[.string nm, .string how, .string v]) W := by kernel_rfl
theorem ake (lv : Av) (W : WD) : (method 503 345 (.agg #[lv]) "rinse/selectors.on").run prog W = .ok (365, .agg #[lv]) W := by kernel_rfl
theorem alY (lv : Av) (W : WD) : (method 503 346 (.agg #[lv]) "rinse/selectors.on").run prog W = .ok (369, .agg #[lv]) W := by kernel_rfl
theorem aeS (nm : BY) (n : Int) (W : WD) : (method 503 351 (.agg #[.string nm, .int .i64 n]) "rinse/selectors.on").run prog W = .ok (372, .agg #[.string nm, .int .i64 n]) W := by kernel_rfl
theorem aeT (nm : BY) (W : WD) : (method 503 343 (.agg #[.string nm]) "rinse/selectors.on").run prog W = .ok (356, .agg #[.string nm]) W := by kernel_rfl
theorem akf(pl:Nat):(if pl=0 then Value.agg #[.string sZ,.int .i64 0] else if pl=1 then .agg #[.string l7,.int .i64 0] else .agg #[.string aA,.int .i64 ((pl-2:Nat):Int)])=.agg #[.string (Mc pl),.int .i64 (plI pl:Int)]:=by
 unfold Mc plI;by_cases h0:pl=0
 .rw[if_pos h0,if_pos h0,if_pos h0];rfl
 .rw[if_neg h0,if_neg h0,if_neg h0];by_cases h1:pl=1
  .rw[if_pos h1,if_pos h1,if_pos h1];rfl
  .rw[if_neg h1,if_neg h1,if_neg h1]
theorem NR(F:lI)(L:bY->Nat)(B:Nat)(p:aI)(a:Option Addr)(cap:Nat)(k:Nat)(nm how v:BY)(l:bY)(pl:Nat)(la:Option Addr)(ln lc:Nat)(w:WD)(h:jZ B w p a cap)(hfit:pJ F w)
  (hL:∀w',Below w.heap.size w w'->Calls prog 46 #[.slice la ln lc,.agg #[.slice a p.length cap]] w' fun ex w''=>ex=.returned (.int .u64 (L l:Int))/\Below w'.heap.size w' w''):
  ∃ T u K rcv, fE k nm how v (.slice la ln lc) pl = .iface T u ∧ (∀ W : WD, (method 503 T u "rinse/selectors.on").run prog W = .ok (K, rcv) W) ∧ (∀ (args : Array Av) (W : WD), (callFunc K args).run prog W = .ok (.enter K args) W) ∧
   Calls prog K #[rcv,.agg #[.slice a p.length cap]] w fun e w''=>e=.returned (.int .u64 (Us F p L (.mk k nm how v l pl):Int))/\Below w.heap.size w w'':=by
 rw[DN];unfold NQ;by_cases hk:k=116\/k=35\/k=46
 .rw[if_pos hk];obtain⟨T,u,K,rcv,h1,h2,h3,h4⟩:=ag8 B p a cap k nm how v (.slice la ln lc) pl w h hk;exact⟨T,u,K,rcv,h1,h2,h3,h4 w As⟩
 .rw[if_neg hk];unfold fE;rw[if_neg (fun e=>hk (Or.inl e)),if_neg (fun e=>hk (Or.inr (Or.inl e))),if_neg (fun e=>hk (Or.inr (Or.inr e)))];by_cases e1:k=91
  .rw[if_pos e1,if_pos e1];exact⟨_,_,_,_,rfl,ahB nm how v,fun _ _=>rfl,ahA B p a cap nm how v (F how v) w h (fun y w' hy hb=>hfit nm how v y w' hy hb)⟩
  .rw[if_neg e1,if_neg e1];by_cases e2:nm=nD
   .rw[if_pos e2,if_pos e2];exact⟨_,_,_,_,rfl,ake _,fun _ _=>rfl,akc B p a cap la ln lc (L l) w h hL⟩
   .rw[if_neg e2,if_neg e2];by_cases e3:nm=DY
    .rw[if_pos e3,if_pos e3];exact⟨_,_,_,_,rfl,alY _,fun _ _=>rfl,alX B p a cap la ln lc (L l) w h hL⟩
    .rw[if_neg e3,if_neg e3];by_cases e4:nm=nG
     .rw[if_pos e4,if_pos e4,akf];exact⟨_,_,_,_,rfl,aeS _ _,fun _ _=>rfl,aeJ B p a cap pl w h⟩
     .rw[if_neg e4,if_neg e4];exact⟨_,_,_,_,rfl,aeT nm,fun _ _=>rfl,aeH B p a cap nm w h⟩
theorem Uu(F:lI)(B:Nat)(p:aI)(a:Option Addr)(cap:Nat):∀(n:Nat) (w:WD),jZ B w p a cap->pJ F w->XO n B p a cap w (Me F p n)
 |0,w,h,hfit=>by
  rintro ⟨k,nm,how,v,l,pl⟩ w' hb pv hx;obtain⟨rfl,la,lc,e⟩:=hx;obtain rfl:pv=fE k nm how v (.slice la 0 lc) pl:=by simpa using e
  have h':=h.below hb h.lt;refine NR F (fun _=>0) B p a cap k nm how v [] pl la 0 lc w' h' (hfit.below hb) ?_;intro w2 hb2;exact aiy 0 B (fun _=>0) [] _ p a cap w2 ⟨la,lc,rfl,⟨Nat.zero_le _,by decide⟩,fun hn=>absurd rfl hn⟩ (h'.below hb2 h'.lt) (fun _=>by decide) (fun c hc=>by cases hc)
 |n+1,w,h,hfit=>by
  rintro ⟨k,nm,how,v,l,pl⟩ w' hb pv hx;obtain⟨lv,e,hsg⟩:=hx;obtain rfl:pv=fE k nm how v lv pl:=by simpa using e
  have h':=h.below hb h.lt;obtain⟨la,lc,rfl⟩:=hsg.form;refine NR F (fun l=>lsS (Kv p (Me F p n) 0) 0 l) B p a cap k nm how v l pl la l.length lc w' h' (hfit.below hb) ?_;intro w2 hb2;have h2:=h'.below hb2 h'.lt;have akg:=hsg.below (One.fair (fO.fair (aQ.fair n))) hb2 h'.lt;refine aiy n B (Kv p (Me F p n) 0) l _ p a cap w2 akg h2 (fun c=>PK p _ h.len.2 c 0 Ab) ?_;intro c _ cv w3 hb3 hcv;have h3:=h2.below hb3 h2.lt;exact aeQ n B (Me F p n) c cv p a cap w3 hcv h3 (aeR F p h.len.2 n) (Uu F B p a cap n w3 h3 (((hfit.below hb).below hb2).below hb3))
