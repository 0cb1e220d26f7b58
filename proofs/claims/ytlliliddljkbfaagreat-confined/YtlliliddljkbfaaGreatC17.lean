import Derived.Test.YtlliliddljkbfaaGreatC12
import Derived.Test.YtlliliddljkbfaaGreatC16
set_option maxHeartbeats 64000000
set_option maxRecDepth 100000
namespace Go.Proofs.YtlliliddljkbfaaGreat
open Go.Proofs.Tryz (prog)
open Go.RowKit Go.Conc Sp
theorem Turn.upon{c:Nat}{w wr w':World}(h:Turn c w wr)(hb:Below w.heap.size wr w'):Turn c w w':=⟨hb.os.trans h.os,hb.tape.trans h.tape,hb.output.trans h.output,Nat.le_trans h.size hb.size,fun k hk hc=>(hb.block k hk).trans (h.block k hk hc)⟩
theorem Turn.setChan{c:Nat}{w wr:World}(h:Turn c w wr)(cap:Nat)(buf:Array Value)(cl:Bool)(s r:Nat)(tm:Bool):Turn c w (wr.setChan c cap buf cl s r tm):=⟨h.os,h.tape,h.output,by rw[size_setChan];exact h.size,fun k hk hc=>by rw[jQ _ _ _ _ _ _ _ _ hc];exact h.block k hk hc⟩
theorem vF.first(w:World):vF w.heap.size (w.alloc (.cells #[.int .i64 0,.string ⟨#[]⟩,.string ⟨#[]⟩,.string ⟨#[]⟩,.slice none 0 0] 195)) (.slice (some ⟨w.heap.size,0,none⟩) 1 1) [⟨Tok.k 0,[],.slice none 0 0,[]⟩]:=by
 refine⟨⟨rfl,.inr ⟨w.heap.size,1,_,rfl,Nat.le_refl _,heap_alloc_new w _,Nat.le_refl _,by unfold maxLen;omega,rfl,?_⟩⟩,fun f hf=>?_,fun f hf=>?_,fun f hf=>?_,by simp⟩
 .rfl
 .rw[List.mem_singleton.1 hf];exact World.ownsRow_nil _ _ _ _
 .rw[List.mem_singleton.1 hf];rfl
 .rw[List.mem_singleton.1 hf];exact⟨by decide,by decide,fun e=>absurd e (by decide),fun e=>absurd e (by decide),fun e=>absurd e (by decide),fun e=>absurd e (by decide)⟩
theorem amP(w:World)(a b c d e:Value)(t:TypeId):∀j u,[a,b,c,d,e][j]?=some u->(w.alloc (.cells #[a,b,c,d,e] t)).cell? ((⟨w.heap.size,0,none⟩:Addr).add j)=some u:=by intro j u hu;rw[Addr.add_lit,Nat.zero_add,World.cell?_alloc_mark,<-hu];simp
def sumF(L:List Fr):Nat:=(L.map (fun f=>f.ins.length+1)).sum
theorem iC(L:List Fr)(f:Fr):sumF (L++[f])=sumF L+(f.ins.length+1):=by simp[sumF]
theorem Jw(L:List Fr):L.length<=sumF L:=by
 induction L with
 |nil=>simp[sumF]
 |cons f r ih=>simp[sumF]at ih⊢;omega
structure LW(w:World)(all:List Tok)(c cap n:Nat)(rest:List Tok)(r:Nat)(v:Value)(L:List Fr)(d:Nat)(wr:World):Prop where
 stk:vF w.heap.size wr v L
 opens:lQ (mM L)
 fin:fin (mM L) rest=nodes all
 depth:d=dst (mM L)
 tot:sumF L+rest.length<=all.length+1
 d6:d<=all.length
 chan:wr.heap[c]?=some (.chan cap (rest.map bF).toArray true n r false)
 turn:Turn c w wr
 sub:∀t∈rest,t∈all
theorem LW.snoc{w:World}{all:List Tok}{c cap n:Nat}{rest:List Tok}{r:Nat}{v:Value}{L:List Fr}{d:Nat}{wr:World}(h:LW w all c cap n rest r v L d wr):∃L0 f,L=L0++[f]:=by
 rcases List.eq_nil_or_concat L with e|⟨l,x,e⟩
 .exact absurd (by rw[e];rfl) h.opens.ne
 .exact⟨l,x,by simpa using e⟩
section
variable {w:World} {all:List Tok} {c cap n:Nat} {rest rest':List Tok} {r r':Nat} {v v':Value} {L:List Fr} {f f1 f2:Fr} {d:Nat} {wr wr':World} {t:Tok}
theorem LW.close(h:LW w all c cap n rest r v (L++[f1]++[f2]) d wr)(adl:vF w.heap.size wr' v' (L++[f]))(ht:f.tok=f1.tok)(hi:f.ins=f1.ins++[.mk f2.tok f2.ins])
  (hr:rest'=rest/\rest=[]\/∃t,rest=t::rest'/\au t (closing f2.tok)=true) (hc:wr'.heap[c]?=some (.chan cap (rest'.map bF).toArray true n r' false)) (hb:Turn c w wr'):LW w all c cap n rest' r' v' (L++[f]) d wr':=by
 have hO:=h.opens;have hF:=h.fin;have hD:=h.depth;have hT:=h.tot;rw[dG,dG]at hO hF hD;rw[iC,iC]at hT;have hp:=hO.pop (j:=f1.ins++[.mk f2.tok f2.ins]);refine⟨adl,?_,?_,?_,?_,h.d6,hc,hb,?_⟩
 .rw[dG,ht,hi];exact hp.2
 .rw[dG,ht,hi,<-hF];rcases hr with⟨rfl,rfl⟩|⟨t,rfl,hs⟩
  .rw[afV]
  .rw[Z7 _ _ _ _ _ hs hp.1]
 .rw[dG,ht,hi,Z8 _ _ _ _ _ hp.1];exact hD
 .rw[iC,hi];rcases hr with⟨rfl,rfl⟩|⟨t,rfl,hs⟩
  .simp at hT⊢;omega
  .simp at hT⊢;omega
 .rcases hr with⟨rfl,rfl⟩|⟨t,rfl,hs⟩
  .exact h.sub
  .exact fun q hq=>h.sub q (by simp[hq])
theorem LW.opened(h:LW w all c cap n (t::rest) r v L d wr)(adl:vF w.heap.size wr' v' (L++[⟨t,[],.slice none 0 0,[]⟩]))(ht:closing t≠aA)(hc:wr'.heap[c]?=some (.chan cap (rest.map bF).toArray true n r' false))(hb:Turn c w wr'):LW w all c cap n rest r' v' (L++[⟨t,[],.slice none 0 0,[]⟩]) (max d L.length) wr':=by
 have hO:=h.opens;have hT:=h.tot;have hl:=Jw L;refine⟨adl,?_,?_,?_,?_,?_,hc,hb,fun q hq=>h.sub q (by simp[hq])⟩
 .rw[dG];exact hO.push ht []
 .rw[dG,<-h.fin];obtain⟨⟨t0,i0⟩,R,e⟩:∃x R,mM L=x::R:=by
   cases hq:mM L with
   |nil=>exact absurd hq hO.ne
   |cons x R=>exact⟨x,R,rfl⟩
  rw[e]at hO⊢;exact acd ht t0 i0 R rest hO
 .rw[dG,acg,QE,<-h.depth]
 .rw[iC];simp at hT⊢;omega
 .have:=h.d6;simp at hT;omega
theorem LW.leaf(h:LW w all c cap n (t::rest) r v (L++[f1]) d wr)(adl:vF w.heap.size wr' v' (L++[f]))(hf:f.tok=f1.tok)(hi:f.ins=f1.ins++[.mk t []])(ht:closing t=aA)(hn:¬(closing f1.tok≠aA/\au t (closing f1.tok)=true))
  (hc:wr'.heap[c]?=some (.chan cap (rest.map bF).toArray true n r' false)) (hb:Turn c w wr'):LW w all c cap n rest r' v' (L++[f]) d wr':=by
 have hO:=h.opens;have hF:=h.fin;have hD:=h.depth;have hT:=h.tot;rw[dG]at hO hF hD;rw[iC]at hT;refine⟨adl,?_,?_,?_,?_,h.d6,hc,hb,fun q hq=>h.sub q (by simp[hq])⟩
 .rw[dG,hf,hi];exact lQ.same hO
 .rw[dG,hf,hi,<-hF];exact ace ht _ _ _ _ hn
 .rw[dG,hf,hi,acf ht];exact hD
 .rw[iC,hi];simp at hT⊢;omega
end
set_option linter.unusedSimpArgs false in
theorem adn(all:List Tok)(c cap n r0:Nat)(w:World)(hch:w.heap[c]?=some (.chan cap (all.map bF).toArray true n r0 false))(h6:all.length<=600)(hok:∀t∈all,dI t):
  Calls prog 67 #[.chan (some c)] w fun e w'=>∃v,e=.returned (.tuple #[v,.int .i64 (depth (nodes all):Int)])/\Sl (oD w.heap.size w') w' v (nodes all)/\Turn c w w':=by
 have ado:c<w.heap.size:=(Ay hch);have VJ:=hid hok;have I0:Hid (LW w all c cap n all r0 (.slice (some ⟨w.heap.size,0,none⟩) 1 1) [⟨Tok.k 0,[],.slice none 0 0,[]⟩] 0 (w.alloc (.cells #[.int .i64 0,.string ⟨#[]⟩,.string ⟨#[]⟩,.string ⟨#[]⟩,.slice none 0 0] 195))):=⟨vF.first w,rfl,Z9 all,rfl,by simp[sumF];omega,oo,by rw[Below.heap_alloc _ _ _ ado];exact hch,(Turn.refl c w).alloc _,fun _ h=>h⟩
 clear hch hok;obtain⟨iT,hiT⟩:=adi;have HI:=hid hiT;clear hiT;refine Dc Tryz.func67 rfl ?_;simp only[Tryz.ntmps67,List.size_toArray,List.length_cons,List.length_nil,Nat.reduceAdd,Nat.reduceSub,Array.replicate_succ,
   Array.replicate_zero,List.push_toArray,List.append_toArray,List.nil_append,List.cons_append]
 refine nN (jI ?_);go_wp2_with fail;refine nN (jI ?_);go_wp2_with fail;refine nN ?_;refine nN (jI ?_);go_wp2_with fail;refine Et ?_
 refine RI (fun m a wr=>∃(rest:List Tok) (v:Value) (L:List Fr) (d r:Nat) (u5 u6 u7 u11 u12 u13 u14 u15 u16 u17 u18 u19 u20 u21 u22 u23 u24 u25 u26 u27 u28 u29 u30 u31 u32 u33 u34 u35 u36 u37 u38 u39 u40 u41 u42 u43 u44 u45 u46 u47 u48 u49 u50 u51 u52 u53 u54 u55 u56 u57 u58 u59 u60:Value),a=⟨#[.chan (some c),undef,.slice none 0 0,.int .i64 (d:Int),v,u5,u6,u7,.agg #[.int .i64 0,.string ⟨#[]⟩,.string ⟨#[]⟩,.string ⟨#[]⟩,.slice none 0 0],.slice (some ⟨w.heap.size,0,none⟩) 1 1,.chan (some c),u11,u12,u13,u14,u15,u16,u17,u18,u19,u20,u21,u22,u23,u24,u25,u26,u27,u28,u29,u30,u31,u32,u33,u34,u35,u36,u37,u38,u39,u40,u41,u42,u43,u44,u45,u46,u47,u48,u49,u50,u51,u52,u53,u54,u55,u56,u57,u58,u59,u60,undef,undef,undef,undef,undef,undef,undef,undef,undef,undef],[]⟩/\rest.length=m/\LW w all c cap n rest r v L d wr) all.length
  ⟨all,_,_,0,r0,_,_,_,_,_,_,_,_,_,_,_,_,_,_,_,_,_,_,_,_,_,_,_,_,_,_,_,_,_,_,_,_,_,_,_,_,_,_,_,_,_,_,_,_,_,_,_,_,_,_,_,_,_,rfl,rfl,I0.o⟩ ?_
 rintro gk _ wr ⟨rest,v,L,d,r,u5,u6,u7,u11,u12,u13,u14,u15,u16,u17,u18,u19,u20,u21,u22,u23,u24,u25,u26,u27,u28,u29,u30,u31,u32,u33,u34,u35,u36,u37,u38,u39,u40,u41,u42,u43,u44,u45,u46,u47,u48,u49,u50,u51,u52,u53,u54,u55,u56,u57,u58,u59,u60,rfl,hlen,hI⟩;obtain⟨L,f,rfl⟩:=hI.snoc;obtain⟨g,vc,rfl⟩:=hI.stk.form;have HI2:=hid hI;have hLf:L.length+f.ins.length+rest.length<=600:=by have:=hI.tot;rw[iC]at this;have:=Jw L;omega
 have hd6:d<=600:=by have:=hI.d6;omega
 have HLen:=hid hlen;clear hI hlen I0;refine nN ?_;refine I9 ?_;show Left _ _ _ [0,1] _ _;cases rest with
 |nil=>
  refine Ja (c:=c) (cap:=cap) (s:=n) (r:=r) (z:=.agg #[.int .i64 0,.string ⟨#[]⟩,.string ⟨#[]⟩]) (tm:=false) (w1:=wr) rfl rfl (by simp[go_sem,rcase]) HI2.o.chan ?_;refine AQ (v:=.bool false) (w':=wr) rfl rfl (by simp[go_sem]) ?_;refine left_nil ?_
  change YJ _ _ _ ⟨#[.chan (some c),undef,.slice none 0 0,.int .i64 (d:Int),.slice (some ⟨g,0,none⟩) (L.length+1) vc,u5,u6,u7,.agg #[.int .i64 0,.string ⟨#[]⟩,.string ⟨#[]⟩,.string ⟨#[]⟩,.slice none 0 0],.slice (some ⟨w.heap.size,0,none⟩) 1 1,.chan (some c),.tuple #[.agg #[.int .i64 0,.string ⟨#[]⟩,.string ⟨#[]⟩],.bool false],.bool false,u13,u14,u15,u16,u17,u18,u19,u20,u21,u22,u23,u24,u25,u26,u27,u28,u29,u30,u31,u32,u33,u34,u35,u36,u37,u38,u39,u40,u41,u42,u43,u44,u45,u46,u47,u48,u49,u50,u51,u52,u53,u54,u55,u56,u57,u58,u59,u60,undef,undef,undef,undef,undef,undef,undef,undef,undef,undef],[]⟩ wr;refine jI ?_;go_wp2_with fail;refine jI ?_;clear HLen;go_wp2_with fail
  go_loopg[4] L.length (fun gg v4 wq=>∃(L:List Fr) (f:Fr) (g vc:Nat),v4=.slice (some ⟨g,0,none⟩) (L.length+1) vc/\gg=L.length/\L.length+f.ins.length<=600/\Aside (LW w all c cap n [] r (.slice (some ⟨g,0,none⟩) (L.length+1) vc) (L++[f]) d wq));case atStart=>exact⟨L,f,g,vc,rfl,rfl,by simpa using hLf,HI2.o⟩
  case round=>
   obtain⟨L1,f1,g1,vc1,rfl,rfl,amQ,hA⟩:=hrel;have HI3:Hid (LW w all c cap n [] r (.slice (some ⟨g1,0,none⟩) (L1.length+1) vc1) (L1++[f1]) d wr):=hA.o;clear hA HI2;rcases List.eq_nil_or_concat L1 with e|⟨L2,f2,e⟩
   .subst e;have HF:Hid (nodes all=f1.ins):=by
     show _=_;rw[<-HI3.o.fin];show fin (mM ([]++[f1])) []=_;rw[dG];show fin [(f1.tok,f1.ins)] []=_;rw[y8,jB];simp
    have HD:Hid (d=depth f1.ins):=by show _=_;rw[HI3.o.depth,dG];simp[mM,dst]
    obtain⟨_,hsl⟩:=HI3.o.stk.drop oo rfl;have HSL:Hid (Sl (oD w.heap.size wr) wr f1.v f1.ins):=hsl.keep (fun _ hg=>⟨hg.1,hg.2.1⟩) fun _ _=>rfl;have c4:=HI3.o.stk.last rfl 4 _ rfl;have hT:=hid HI3.o.turn;simp only[List.length_nil,Nat.zero_mul,Nat.zero_add]at c4;clear hsl HI3;simp only[List.length_nil,Nat.zero_add];go_wp2_with fail;go_ret2
    exact⟨f1.v,by rw[HF.o,HD.o];rfl,by rw[HF.o];exact HSL.o,hT.o⟩
   .rw[List.concat_eq_append]at e;subst e;have hl2:(L2++[f2]).length=L2.length+1:=by simp
    rw[hl2]at amQ HI3⊢;have h1l:(1:Int)<(L2.length:Int)+1+1:=oo;have hf2:f2.ins.length<=600:=by have:=HI3.o.tot;rw[iC,iC]at this;omega
    have hbs:=HI3.o.turn.size;clear hl2;go_wp2_with fail;refine(FK w.heap.size L2 f2 f1 _ wr HI3.o.stk oo hf2 oo hbs).mono ?_;rintro e w5 ⟨v5,f5,rfl,hst5,ht5,hi5,hb5⟩;have HI5:Hid (LW w all c cap n [] r v5 (L2++[f5]) d w5):=HI3.o.close hst5 ht5 hi5 (.inl ⟨rfl,rfl⟩) (by rw[hb5.block c ado];exact HI3.o.chan) (HI3.o.turn.upon hb5);have hf5:L2.length+f5.ins.length<=600:=by have q1:=HI5.o.tot;rw[iC]at q1;have q2:=Jw L2;simp only[List.length_nil]at q1;omega
    obtain⟨g5,vc5,e5⟩:=hst5.form;subst e5;clear hst5 ht5 hi5 hb5 HI3;go_wp2_with fail;go_roundg L2.length;case measure=>simp
    case rel=>exact⟨L2,f5,g5,vc5,rfl,rfl,hf5,HI5.o⟩
 |cons t rest=>
  refine aax (c:=c) (cap:=cap) (s:=n) (r:=r) (closed:=true) (buf:=((t::rest).map bF).toArray) (z:=.agg #[.int .i64 0,.string ⟨#[]⟩,.string ⟨#[]⟩]) (tm:=false) (w1:=wr) rfl rfl (by simp[go_sem,rcase]) HI2.o.chan (by simp) ?_;have e1:((t::rest).map bF).toArray.getD 0 undef=.agg #[.int .i64 t.kind,.string t.word,.string t.unit]:=rfl;have e2:((t::rest).map bF).toArray.extract 1 ((t::rest).map bF).toArray.size=(rest.map bF).toArray:=by apply Array.ext';simp;exact List.take_of_length_le (by simp)
  rw[e1,e2];have HC3:Hid ((wr.setChan c cap (rest.map bF).toArray true n (r+1) false).heap[c]?=some (.chan cap (rest.map bF).toArray true n (r+1) false)):=heap_setChan _ _ _ _ _ _ _ _ (by have:=HI2.o.turn.size;omega);have HK3:Hid (vF w.heap.size (wr.setChan c cap (rest.map bF).toArray true n (r+1) false) (.slice (some ⟨g,0,none⟩) (L.length+1) vc) (L++[f])):=HI2.o.stk.keep (by rw[size_setChan];omega) fun k hk _=>jQ _ _ _ _ _ _ _ _ oo;have HT3:Hid (Turn c w (wr.setChan c cap (rest.map bF).toArray true n (r+1) false)):=HI2.o.turn.setChan _ _ _ _ _ _;generalize wr.setChan c cap (rest.map bF).toArray true n (r+1) false=wx at *;clear e1 e2;refine AQ (v:=.bool true) (w':=wx) rfl rfl (by simp[go_sem]) ?_;refine left_nil ?_
  change YJ _ _ _ ⟨#[.chan (some c),undef,.slice none 0 0,.int .i64 (d:Int),.slice (some ⟨g,0,none⟩) (L.length+1) vc,u5,u6,u7,.agg #[.int .i64 0,.string ⟨#[]⟩,.string ⟨#[]⟩,.string ⟨#[]⟩,.slice none 0 0],.slice (some ⟨w.heap.size,0,none⟩) 1 1,.chan (some c),.tuple #[.agg #[.int .i64 t.kind,.string t.word,.string t.unit],.bool true],.bool true,u13,u14,u15,u16,u17,u18,u19,u20,u21,u22,u23,u24,u25,u26,u27,u28,u29,u30,u31,u32,u33,u34,u35,u36,u37,u38,u39,u40,u41,u42,u43,u44,u45,u46,u47,u48,u49,u50,u51,u52,u53,u54,u55,u56,u57,u58,u59,u60,undef,undef,undef,undef,undef,undef,undef,undef,undef,undef],[]⟩ wx;refine jI ?_;simp only[List.length_cons]at hLf;have hws:=HT3.o.size
  have l0:∀j u,[Value.int .i64 t.kind,.string t.word,.string t.unit][j]?=some u->(wx.alloc (.cells #[.int .i64 t.kind,.string t.word,.string t.unit] 93)).cell? ⟨wx.heap.size,j,none⟩=some u:=by intro j u hu;rw[World.cell?_alloc_mark,<-hu];simp
  have L0:=hid l0;have HK4:Hid (vF w.heap.size (wx.alloc (.cells #[.int .i64 t.kind,.string t.word,.string t.unit] 93)) (.slice (some ⟨g,0,none⟩) (L.length+1) vc) (L++[f])):=HK3.o.keep (by simp) fun k _ hk=>Below.heap_alloc _ _ _ hk;have HT4:Hid (Turn c w (wx.alloc (.cells #[.int .i64 t.kind,.string t.word,.string t.unit] 93))):=HT3.o.alloc _;have FZ:Hid ((wx.alloc (.cells #[.int .i64 t.kind,.string t.word,.string t.unit] 93)).heap[c]?=some (.chan cap (rest.map bF).toArray true n (r+1) false)):=by show _=_;rw[Below.heap_alloc _ _ _ oo];exact HC3.o
  have hz4:wx.heap.size<(wx.alloc (.cells #[.int .i64 t.kind,.string t.word,.string t.unit] 93)).heap.size:=by simp
  have hgt:g<wx.heap.size:=(HK3.o.row.lt g rfl).2;have HFG:Hid (∀k,f.v.ownBlock=some k->k<wx.heap.size):=fun k hk=>((HK3.o.own f (by simp)).lt k hk).2;clear l0 HC3 HK3 HT3;go_upto_region 6 with fail
  generalize wx.alloc (.cells #[.int .i64 t.kind,.string t.word,.string t.unit] 93)=w2 at *;generalize wx.heap.size=gt at *;have t0:=L0.o 0 _ rfl;have t1:=L0.o 1 _ rfl;have t2:=L0.o 2 _ rfl;clear L0;go_wp2_with fail;refine pmb (G9 t _) fun w3 hb3=>?_;have hw2:=HT4.o.size;have HK5:Hid (vF w.heap.size w3 (.slice (some ⟨g,0,none⟩) (L.length+1) vc) (L++[f])):=HK4.o.keep hb3.size fun k _ hk=>hb3.block k hk;have HT5:=hid (HT4.o.upon (hb3.mono hw2));have xg:Hid (w3.heap[c]?=some (.chan cap (rest.map bF).toArray true n (r+1) false)):=by show _=_;rw[hb3.block c oo];exact FZ.o
  have T0:w3.cell? ⟨gt,0,none⟩=some (.int .i64 t.kind):=(hb3.cell (by exact hz4)).trans t0;have T1:w3.cell? ⟨gt,1,none⟩=some (.string t.word):=(hb3.cell (by exact hz4)).trans t1;have T2:w3.cell? ⟨gt,2,none⟩=some (.string t.unit):=(hb3.cell (by exact hz4)).trans t2;have hz5:gt<w3.heap.size:=Nat.lt_of_lt_of_le hz4 hb3.size;have ajv:=hid (VJ.o t (HI2.o.sub t (by simp)));clear hb3 HK4 HT4 FZ t0 t1 t2 hz4;cases hcl:(closing t).toList==([]:List UInt8)
  .have hcl':closing t≠aA:=by
    rw[ay]at hcl;simpa[aA]using hcl
   have HCL:=hid hcl';clear hcl';obtain⟨xs,Hxs⟩:∃xs,Hid ((L++[f]).flatMap Fr.cells=xs):=⟨_,hid rfl⟩;have ajw:Hid (w3.ownsRow w.heap.size 195 5 (.slice (some ⟨g,0,none⟩) (L.length+1) vc) (L.length+1) xs):=by have:=HK5.o.row;rw[List.length_append,Hxs.o]at this;exact this
   have hw3:=HT5.o.size;go_wp2_with(at_builtin;go_must(refine wpList_append_own_at _ rfl _ _ 196 rfl w.heap.size 195 iT (.agg #[.int .i64 0,.string ⟨#[]⟩,.string ⟨#[]⟩,.string ⟨#[]⟩,.slice none 0 0]) 5 80 Tryz.underlying196 HI.o.1 HI.o.2.1 HI.o.2.2.1 HI.o.2.2.2 rfl oo (.slice (some ⟨g,0,none⟩) (L.length+1) vc) (L.length+1) xs rfl (ajw.o.alloc _) ⟨w3.heap.size,0,none⟩ 1 1 [.int .i64 t.kind,.string t.word,.string t.unit,.string (closing t),.slice none 0 0] rfl rfl (amP _ _ _ _ _ _ _) (by simp[Value.oneCell']) (by unfold maxLen;omega) oo (by simp;omega) ?_));intro v4 w4 hown4 dS _ oh;have hgl:∀rr,Value.ownBlock (.slice (some ⟨g,0,none⟩) (L.length+1) vc)=some rr->w.heap.size<=rr:=fun rr hr=>(ajw.o.lt rr hr).1
   have WV:Hid (vF w.heap.size w4 v4 (L++[f]++[⟨t,[],.slice none 0 0,[]⟩])):=HK5.o.push t ajv.o (by rw[List.length_append,Hxs.o];exact hown4) (by have:=dS.size;simp at this;omega) (fun k hk h1=>by rw[dS.block k (by simp;omega) h1,Below.heap_alloc _ _ _ hk]) (by rcases oh with e|e;exact .inl e;exact .inr ⟨_,e,by simp⟩);have HB6:Below w.heap.size w3 w4:=(Ax.alloc hw3 _).grown dS (by simp;omega) hgl;have HI6:Hid (LW w all c cap n rest (r+1) v4 (L++[f]++[⟨t,[],.slice none 0 0,[]⟩]) (max d (L.length+1)) w4):=by have:=HI2.o.opened (r':=r+1) WV.o HCL.o (by rw[HB6.block c ado];exact xg.o) (HT5.o.upon HB6);rwa[List.length_append]at this
   obtain⟨g4,vc4,e4⟩:=Gu hown4;subst e4;clear hown4 dS oh HB6 WV HK5 HT5 xg HI2 ajw;have SC:rest.length<gk:=by have:=HLen.o;simp at this;omega
   have em:max (d:Int) ((L.length:Int)+1)=((max d (L.length+1):Nat):Int):=oo;have EM:=hid em;clear em;go_wp2_with fail;rw[EM.o];exact⟨rest.length,SC,rest,_,_,max d (L.length+1),r+1,_,_,_,_,_,_,_,_,_,_,_,_,_,_,_,_,_,_,_,_,_,_,_,_,_,_,_,_,_,_,_,_,_,_,_,_,_,_,_,_,_,_,_,_,_,_,_,_,_,_,_,_,_,rfl,rfl,HI6.o⟩
  .have hcl':closing t=aA:=by
    rw[ay]at hcl;simpa[aA]using hcl
   have HCL:=hid hcl';clear hcl';have hw3:=HT5.o.size;have c3:w3.cell? ⟨g,L.length*5+3,none⟩=some (.string (closing f.tok)):=HK5.o.last rfl 3 _ rfl;obtain⟨b,Hb⟩:∃b,Hid ((t.kind==15&&(t.word.toList==(closing f.tok).toList))=b):=⟨_,hid rfl⟩;have q1:(0:Int)<=(L.length:Int):=oo;have q2:(L.length:Int)<(L.length:Int)+1:=oo;have SC:rest.length<gk:=by have:=HLen.o;simp at this;omega
   go_upto_region 11 with fail
   go_cut [45] from 11 to 60 (fun s45 wx=>s45=.bool b/\∃nq,wx=w3.drewN nq);case first=>
    cases hk:(t.kind==15)
    .have hb:b=false:=by rw[<-Hb.o,hk];rfl
     subst hb;go_quiet (fail)
     go_wp2_with fail;go_meet
     exact⟨rfl,_,rfl⟩
    .have hb:b=(t.word.toList==(closing f.tok).toList):=by rw[<-Hb.o,hk];rfl
     subst hb;go_quiet (fail)
     go_wp2_with fail;go_meet
     exact⟨rfl,_,rfl⟩
   case rest=>
   obtain⟨rfl,nq,rfl⟩:=hcut;have amR:gt<(w3.drewN nq).heap.size:=hz5;have WV:Hid (vF w.heap.size (w3.drewN nq) (.slice (some ⟨g,0,none⟩) (L.length+1) vc) (L++[f])):=HK5.o.keep nl fun _ _ _=>rfl;have HT6:=hid (HT5.o.drewN nq);have OA:Hid ((w3.drewN nq).heap[c]?=some (.chan cap (rest.map bF).toArray true n (r+1) false)):=xg.o;have s0:(w3.drewN nq).cell? ⟨gt,0,none⟩=some (.int .i64 t.kind):=T0;have s1:(w3.drewN nq).cell? ⟨gt,1,none⟩=some (.string t.word):=T1;have s2:(w3.drewN nq).cell? ⟨gt,2,none⟩=some (.string t.unit):=T2;have hw6:w.heap.size<=(w3.drewN nq).heap.size:=hw3;generalize w3.drewN nq=w6 at *;clear HK5 HT5 xg T0 T1 T2 c3 hz5 hw3;cases b
   .have hb:=Hb.o;have HN:Hid (¬(closing f.tok≠aA/\au t (closing f.tok)=true)):=by
     intro hh;have h2:=hh.2;unfold au at h2;simp only[Bool.and_eq_true,decide_eq_true_eq]at h2;have h3:=bytes_beq t.word (closing f.tok);rw[h2.2]at h3;rw[h2.1,h2.2]at hb;simp at h3 hb
    clear hb Hb;obtain⟨iV,hiV⟩:=SA;have HV:=hid hiV;clear hiV;have O6:=hid (WV.o.own f (by simp));obtain⟨ka,kc,e1⟩:=kQ O6.o;have hap:some g≠f.v.ownBlock:=fun e2=>WV.o.apart (f:=f) (by simp) g rfl e2.symm;have hgb:=WV.o.row.lt g rfl;have hf:w6.cell? ⟨g,L.length*5+4,none⟩=some f.v:=WV.o.last rfl 4 _ rfl;have hz4:w6.frozen? ⟨g,L.length*5+4,none⟩=false:=by have hr:=WV.o.row;rw[List.length_append]at hr;exact hr.frozenAt _
    have agC:Hid (∀(gv vcv:Nat) (X:Obj) (w8:World),w8.ownsRow w.heap.size 199 4 (.slice (some ⟨gv,0,none⟩) (f.ins.length+1) vcv) (f.ins.length+1) (f.cs++[.int .i64 0,.string ⟨#[]⟩,.string ⟨#[]⟩,.slice none 0 0])->(w6.drew.alloc X).grownBy w8 f.v.ownBlock->(some gv=f.v.ownBlock\/some gv=some (w6.drew.alloc X).heap.size)->LW w all c cap n rest (r+1) (.slice (some ⟨g,0,none⟩) (L.length+1) vc) (L++[⟨f.tok,f.ins++[.mk t []],.slice (some ⟨gv,0,none⟩) (f.ins.length+1) vcv,f.cs++[.int .i64 t.kind,.string t.word,.string t.unit,.slice none 0 0]⟩]) d (((((w8.setCell ⟨g,L.length*5+4,none⟩ (.slice (some ⟨gv,0,none⟩) (f.ins.length+1) vcv)).setCell ⟨gv,f.ins.length*4,none⟩ (.int .i64 t.kind)).setCell ⟨gv,f.ins.length*4+1,none⟩ (.string t.word)).setCell ⟨gv,f.ins.length*4+2,none⟩ (.string t.unit)).setCell ⟨gv,f.ins.length*4+3,none⟩ (.slice none 0 0))):=by
     intro gv vcv X w8 hown hgr hat;have OO:w.heap.size<=gv:=(hown.lt gv rfl).1;have hlo:∀rr,f.v.ownBlock=some rr->w.heap.size<=rr:=fun rr hr=>(O6.o.lt rr hr).1;have hst:=WV.o.put (W:=w6.drew.alloc X) rfl (.mk t []) _ ⟨Sl.nil _ _,ajv.o⟩ (by simp) (fun k hk=>Below.heap_alloc _ _ _ hk) hown hgr hat;have hb:Below w.heap.size w6 (((((w8.setCell ⟨g,L.length*5+4,none⟩ (.slice (some ⟨gv,0,none⟩) (f.ins.length+1) vcv)).setCell ⟨gv,f.ins.length*4,none⟩ (.int .i64 t.kind)).setCell ⟨gv,f.ins.length*4+1,none⟩ (.string t.word)).setCell ⟨gv,f.ins.length*4+2,none⟩ (.string t.unit)).setCell ⟨gv,f.ins.length*4+3,none⟩ (.slice none 0 0)):=(((((((Ax.drew.alloc hw6 X).grown hgr (by simp;omega) hlo).setCell hgb.1 _).setCell OO _).setCell OO _).setCell OO _).setCell OO _)
     exact HI2.o.leaf hst rfl rfl HCL.o HN.o (by rw[hb.block c ado];exact OA.o) (HT6.o.upon hb)
    rw[e1]at hf O6 hap HFG agC;have KS:Hid (∀(W:World) (k o:Nat) (u:Value),k≠gt->(fun wx=>wx.cell? ⟨gt,0,none⟩=some (.int .i64 t.kind)/\wx.cell? ⟨gt,1,none⟩=some (.string t.word)/\wx.cell? ⟨gt,2,none⟩=some (.string t.unit)) W->(fun wx=>wx.cell? ⟨gt,0,none⟩=some (.int .i64 t.kind)/\wx.cell? ⟨gt,1,none⟩=some (.string t.word)/\wx.cell? ⟨gt,2,none⟩=some (.string t.unit)) (W.setCell ⟨k,o,none⟩ u)):=by intro W k o u hk hS;have e:∀j,(W.setCell ⟨k,o,none⟩ u).cell? ⟨gt,j,none⟩=W.cell? ⟨gt,j,none⟩:=fun j=>World.cell?_of_block (w:=W) (Below.heap_setCell _ _ _ _ (by show gt≠k;exact fun e=>hk e.symm));exact⟨(e 0).trans hS.1,(e 1).trans hS.2.1,(e 2).trans hS.2.2⟩
    have r2:(f.ins.length:Int)<(f.ins.length:Int)+1:=oo;have amS:=hid O6.o.1;have sS:(fun wx=>wx.cell? ⟨gt,0,none⟩=some (.int .i64 t.kind)/\wx.cell? ⟨gt,1,none⟩=some (.string t.word)/\wx.cell? ⟨gt,2,none⟩=some (.string t.unit)) w6.drew:=⟨s0,s1,s2⟩;have HSA:(fun wx=>wx.cell? ⟨gt,0,none⟩=some (.int .i64 t.kind)/\wx.cell? ⟨gt,1,none⟩=some (.string t.word)/\wx.cell? ⟨gt,2,none⟩=some (.string t.unit)) (w6.drew.alloc (.cells #[.int .i64 0,.string ⟨#[]⟩,.string ⟨#[]⟩,.slice none 0 0] 199)):=by have e:∀j,(w6.drew.alloc (.cells #[.int .i64 0,.string ⟨#[]⟩,.string ⟨#[]⟩,.slice none 0 0] 199)).cell? ⟨gt,j,none⟩=w6.drew.cell? ⟨gt,j,none⟩:=fun j=>World.cell?_of_block (w:=w6.drew) (Below.heap_alloc _ _ _ amR);exact⟨(e 0).trans s0,(e 1).trans s1,(e 2).trans s2⟩
    have hfA:(w6.drew.alloc (.cells #[.int .i64 0,.string ⟨#[]⟩,.string ⟨#[]⟩,.slice none 0 0] 199)).cell? ⟨g,L.length*5+4,none⟩=some (.slice ka f.ins.length kc):=(World.cell?_of_block (w:=w6.drew) (a:=⟨g,L.length*5+4,none⟩) (Below.heap_alloc _ _ _ hgb.2)).trans hf;clear HI2 WV HT6 OA s0 s1 s2;go_wp2_with fail;refine wp_region_held_drew (S:=(fun wx=>wx.cell? ⟨gt,0,none⟩=some (.int .i64 t.kind)/\wx.cell? ⟨gt,1,none⟩=some (.string t.word)/\wx.cell? ⟨gt,2,none⟩=some (.string t.unit))) (by kernel_rfl) sS (fun _=>?_);refine Qp 0 rfl sS (fun _ _=>gs) ?_;refine Qp 1 rfl sS (fun _ _=>gs) ?_;refine Qp 2 rfl sS (fun _ _=>gs) ?_;refine Qp 3 rfl sS (fun _ _=>gs) ?_
    refine Qp 5 rfl sS (by intro w hSw;obtain⟨z0,z1,z2⟩:=hSw;exact gs) ?_;refine Qp 6 rfl sS (fun _ _=>gs) ?_;refine wpAnyH_ready (rs:=[4,8]) (by kernel_rfl) (by simp) ?_;refine AllReadyH.cons rfl (fun K hK=>?_) (AllReadyH.cons rfl (fun K hK=>?_) AllReadyH.nil);focus
     go_simp;refine hK.o _ _ sS (fun _=>?_);clear hK K;refine Qp 7 rfl sS (fun _ _=>gs) ?_;refine iW 8 fun K hK=>?_;go_simp;refine hK.o _ _ (HSA) (fun _=>?_);clear hK K
    rotate_left;focus
     go_simp;refine hK.o _ _ HSA (fun _=>?_);clear hK K;refine iW 4 fun K hK=>?_;go_simp;refine hK.o _ _ (HSA) (fun _=>?_);clear hK K;refine Qp 7 rfl HSA (fun _ _=>gs) ?_
    rotate_left;all_goals
     refine wpAnyH_ready (rs:=[9]) (by kernel_rfl) (by simp) ?_;refine AllReadyH.cons rfl (fun K hK=>?_) AllReadyH.nil;refine qY rfl (.tmp 23) (.tmp 27) 128 rfl w.heap.size 199 iV (.agg #[.int .i64 0,.string ⟨#[]⟩,.string ⟨#[]⟩,.slice none 0 0]) 4 64 Tryz.underlying128 HV.o.1 HV.o.2.1 HV.o.2.2.1 HV.o.2.2.2 rfl oo (.slice ka f.ins.length kc) f.ins.length f.cs (by simp[Act.eval]) (O6.o.drew.alloc _) ⟨w6.heap.size,0,none⟩ 1 1 [.int .i64 0,.string ⟨#[]⟩,.string ⟨#[]⟩,.slice none 0 0] (by simp[Act.eval]) rfl (Vu _ _ _ _ _ _) (by simp[Value.oneCell']) (by unfold maxLen;omega) oo (by simp;omega) ?_;intro v8 w8 eP lD agD;obtain⟨gv,vcv,e8⟩:=Gu eP;subst e8;have alz:w8.heap[g]?=w6.heap[g]?:=(lD.block g (by simp;omega) hap).trans (Below.heap_alloc _ _ _ hgb.2)
     have anw:w8.cell? ⟨g,L.length*5+4,none⟩=some (.slice ka f.ins.length kc):=(World.cell?_of_block (w:=w6) (a:=⟨g,L.length*5+4,none⟩) alz).trans hf;have anx:w8.frozen? ⟨g,L.length*5+4,none⟩=false:=(World.frozen?_of_block (w:=w6) (a:=⟨g,L.length*5+4,none⟩) alz).trans hz4;have adk:¬gv=g:=by
      rintro rfl;rcases agD with e2|e2
      .exact hap e2
      .simp[Value.ownBlock]at e2;omega
     have aly:¬g=gv:=fun e=>adk e.symm;have F8:gv≠gt:=by
      rintro rfl;rcases agD with e2|e2
      .have:=HFG.o gv e2.symm;omega
      .simp[Value.ownBlock]at e2;omega
     have ajx:g≠gt:=oo;obtain⟨x0,x1,x2,x3⟩:=Qv eP amS.o;have k0:=eP.frozenAt (f.ins.length*4);have k1:=eP.frozenAt (f.ins.length*4+1);have k2:=eP.frozenAt (f.ins.length*4+2);have k3:=eP.frozenAt (f.ins.length*4+3);have HS8:(fun wx=>wx.cell? ⟨gt,0,none⟩=some (.int .i64 t.kind)/\wx.cell? ⟨gt,1,none⟩=some (.string t.word)/\wx.cell? ⟨gt,2,none⟩=some (.string t.unit)) w8:=by have hbt:w8.heap[gt]?=(w6.drew.alloc (.cells #[.int .i64 0,.string ⟨#[]⟩,.string ⟨#[]⟩,.slice none 0 0] 199)).heap[gt]?:=lD.block gt (by simp;omega) (fun e=>by have:=HFG.o gt e.symm;omega);have e:∀j,w8.cell? ⟨gt,j,none⟩=(w6.drew.alloc (.cells #[.int .i64 0,.string ⟨#[]⟩,.string ⟨#[]⟩,.slice none 0 0] 199)).cell? ⟨gt,j,none⟩:=fun j=>World.cell?_of_block (w:=w6.drew.alloc (.cells #[.int .i64 0,.string ⟨#[]⟩,.string ⟨#[]⟩,.slice none 0 0] 199)) hbt;exact⟨(e 0).trans HSA.1,(e 1).trans HSA.2.1,(e 2).trans HSA.2.2⟩
     have HIB:=agC.o gv vcv _ w8 eP lD agD;have HI8:=hid HIB;clear HIB eP lD agD;refine hK.o _ _ HS8 (fun _=>?_);clear hK K;refine Qp 10 rfl HS8 (fun _ _=>gs) ?_;refine Qp 12 rfl HS8 (fun _ _=>gs) ?_
     refine Qp 13 rfl HS8 (fun _ _=>gs) ?_;refine wpAnyH_ready (rs:=[11,14]) (by kernel_rfl) (by simp) ?_;refine AllReadyH.cons rfl (fun K hK=>?_) (AllReadyH.cons rfl (fun K hK=>?_) AllReadyH.nil)
     .go_simp;refine hK.o _ _ (KS.o _ _ _ _ F8 (KS.o _ _ _ _ F8 (KS.o _ _ _ _ F8 (KS.o _ _ _ _ F8 HS8)))) (fun _=>?_);clear hK K;refine iW 14 fun K hK=>?_;go_simp;refine hK.o _ _ (KS.o _ _ _ _ ajx (KS.o _ _ _ _ F8 (KS.o _ _ _ _ F8 (KS.o _ _ _ _ F8 (KS.o _ _ _ _ F8 HS8))))) (fun _=>?_);clear hK K;refine wpAnyH_done (by kernel_rfl) ?_ _;refine(show ∃n',n'<gk/\_ from⟨rest.length,SC,?_⟩);exact⟨rest,_,_,d,r+1,_,_,_,_,_,_,_,_,_,_,_,_,_,_,_,_,_,_,_,_,_,_,_,_,_,_,_,_,_,_,_,_,_,_,_,_,_,_,_,_,_,_,_,_,_,_,_,_,_,_,_,_,_,rfl,rfl,by rw[put_comm w8 adk];exact HI8.o⟩
     .go_simp;refine hK.o _ _ (KS.o _ _ _ _ ajx HS8) (fun _=>?_);clear hK K;refine iW 11 fun K hK=>?_;go_simp;refine hK.o _ _ (KS.o _ _ _ _ F8 (KS.o _ _ _ _ F8 (KS.o _ _ _ _ F8 (KS.o _ _ _ _ F8 (KS.o _ _ _ _ ajx HS8))))) (fun _=>?_);clear hK K;refine wpAnyH_done (by kernel_rfl) ?_ _;refine(show ∃n',n'<gk/\_ from⟨rest.length,SC,?_⟩);exact⟨rest,_,_,d,r+1,_,_,_,_,_,_,_,_,_,_,_,_,_,_,_,_,_,_,_,_,_,_,_,_,_,_,_,_,_,_,_,_,_,_,_,_,_,_,_,_,_,_,_,_,_,_,_,_,_,_,_,_,_,rfl,rfl,HI8.o⟩
   .have hb:=Hb.o;simp only[Bool.and_eq_true,beq_iff_eq]at hb;have HS:Hid (au t (closing f.tok)=true):=by
     show _=_;unfold au;have e:t.word=closing f.tok:=by have:=bytes_beq t.word (closing f.tok);rw[hb.2]at this;simpa using this.symm
     simp[hb.1,e]
    have HN:Hid (closing f.tok≠aA):=by
     intro e;have e2:t.word=aA:=by have:=bytes_beq t.word (closing f.tok);rw[hb.2]at this;rw[<-e];simpa using this.symm
     have:=ajv.o.sign hb.1;rw[e2]at this;exact absurd this (by decide)
    clear hb Hb;rcases List.eq_nil_or_concat L with e|⟨L2,f2,e⟩
    .exfalso
     have:=HI2.o.opens;rw[e,dG]at this;exact HN.o this
    rw[List.concat_eq_append]at e;subst e;have hl2:(L2++[f2]).length=L2.length+1:=by simp
    rw[hl2]at hLf HI2 WV q1 q2⊢;have hf2:f2.ins.length<=600:=by have:=HI2.o.tot;rw[iC,iC]at this;simp at this;omega
    have hf1:f.ins.length<=600:=by have:=HI2.o.tot;rw[iC,iC]at this;simp at this;omega
    clear hl2;go_wp2_with fail;refine(FK w.heap.size L2 f2 f _ w6 WV.o oo hf2 hf1 hw6).mono ?_;rintro e w7 ⟨v7,f7,rfl,alA,ht7,hi7,hb7⟩;have HI7:Hid (LW w all c cap n rest (r+1) v7 (L2++[f7]) d w7):=HI2.o.close alA ht7 hi7 (.inr ⟨t,rfl,HS.o⟩) (by rw[hb7.block c ado];exact OA.o) (HT6.o.upon hb7);clear alA ht7 hi7 hb7 HI2 WV;go_wp2_with fail;exact⟨rest.length,SC,rest,_,_,d,r+1,_,_,_,_,_,_,_,_,_,_,_,_,_,_,_,_,_,_,_,_,_,_,_,_,_,_,_,_,_,_,_,_,_,_,_,_,_,_,_,_,_,_,_,_,_,_,_,_,_,_,_,_,_,rfl,rfl,HI7.o⟩
end Go.Proofs.YtlliliddljkbfaaGreat
