import Derived.Test.YtlliliddljkbfaaGreatDoorC20
import Derived.Test.YtlliliddljkbfaaGreatDoorC49
import Derived.Deep.RegionHeld3
namespace Go.Proofs.YtlliliddljkbfaaGreatDoor
set_option maxHeartbeats 64000000
set_option maxRecDepth 100000
open Go.Proofs.Tryz (prog)
open Go.RowKit Go.Conc Sp
theorem Turn.upon{c:Nat}{w wr w':World}(h:Turn c w wr)(hb:Below w.heap.size wr w'):Turn c w w':=⟨hb.os.trans h.os,hb.tape.trans h.tape,hb.output.trans h.output,Nat.le_trans h.size hb.size,fun k hk hc=>(hb.block k hk).trans (h.block k hk hc)⟩
theorem Turn.setChan{c:Nat}{w wr:World}(h:Turn c w wr)(cap:Nat)(buf:Array Value)(cl:Bool)(s r:Nat)(tm:Bool):Turn c w (wr.setChan c cap buf cl s r tm):=⟨h.os,h.tape,h.output,by rw[size_setChan];exact h.size,fun k hk hc=>by rw[kF _ _ _ _ _ _ _ _ hc];exact h.block k hk hc⟩
theorem sO.first(w:World):sO w.heap.size (w.alloc (.cells #[.int .i64 0,.string ⟨#[]⟩,.string ⟨#[]⟩,.string ⟨#[]⟩,.slice none 0 0] 164)) (.slice (some ⟨w.heap.size,0,none⟩) 1 1) [⟨Tok.k 0,[],.slice none 0 0,[]⟩]:=by
 refine⟨⟨rfl,.inr ⟨w.heap.size,1,_,rfl,Nat.le_refl _,heap_alloc_new w _,Nat.le_refl _,by unfold maxLen;omega,rfl,?_⟩⟩,fun f hf=>?_,fun f hf=>?_,fun f hf=>?_,by simp⟩
 .rfl
 .rw[List.mem_singleton.1 hf];exact World.ownsRow_nil _ _ _ _
 .rw[List.mem_singleton.1 hf];rfl
 .rw[List.mem_singleton.1 hf];exact⟨by decide,by decide,fun e=>absurd e (by decide),fun e=>absurd e (by decide),fun e=>absurd e (by decide),fun e=>absurd e (by decide)⟩
theorem ae0(w:World)(a b c d e:Value)(t:TypeId):∀j u,[a,b,c,d,e][j]?=some u->(w.alloc (.cells #[a,b,c,d,e] t)).cell? ((⟨w.heap.size,0,none⟩:Addr).add j)=some u:=by intro j u hu;rw[Addr.add_lit,Nat.zero_add,World.cell?_alloc_mark,<-hu];simp
def sumF(L:List Fr):Nat:=(L.map (fun f=>f.ins.length+1)).sum
theorem jd(L:List Fr)(f:Fr):sumF (L++[f])=sumF L+(f.ins.length+1):=by simp[sumF]
theorem Gu(L:List Fr):L.length<=sumF L:=by
 induction L with
 |nil=>simp[sumF]
 |cons f r ih=>simp[sumF]at ih⊢;omega
structure Iw(w:World)(all:List Tok)(c cap n:Nat)(rest:List Tok)(r:Nat)(v:Value)(L:List Fr)(d:Nat)(wr:World):Prop where
 stk:sO w.heap.size wr v L
 opens:lV (mJ L)
 fin:fin (mJ L) rest=nodes all
 depth:d=dst (mJ L)
 tot:sumF L+rest.length<=all.length+1
 d6:d<=all.length
 chan:wr.heap[c]?=some (.chan cap (rest.map aF).toArray true n r false)
 turn:Turn c w wr
 sub:∀t∈rest,t∈all
theorem Iw.snoc{w:World}{all:List Tok}{c cap n:Nat}{rest:List Tok}{r:Nat}{v:Value}{L:List Fr}{d:Nat}{wr:World}(h:Iw w all c cap n rest r v L d wr):∃L0 f,L=L0++[f]:=by
 rcases List.eq_nil_or_concat L with e|⟨l,x,e⟩
 .exact absurd (by rw[e];rfl) h.opens.ne
 .exact⟨l,x,by simpa using e⟩
section
variable {w:World} {all:List Tok} {c cap n:Nat} {rest rest':List Tok} {r r':Nat} {v v':Value} {L:List Fr} {f f1 f2:Fr} {d:Nat} {wr wr':World} {t:Tok}
theorem Iw.close(h:Iw w all c cap n rest r v (L++[f1]++[f2]) d wr)(Yd:sO w.heap.size wr' v' (L++[f]))(ht:f.tok=f1.tok)(hi:f.ins=f1.ins++[.mk f2.tok f2.ins])
  (hr:rest'=rest/\rest=[]\/∃t,rest=t::rest'/\ay t (closing f2.tok)=true) (hc:wr'.heap[c]?=some (.chan cap (rest'.map aF).toArray true n r' false)) (hb:Turn c w wr'):Iw w all c cap n rest' r' v' (L++[f]) d wr':=by
 have hO:=h.opens;have hF:=h.fin;have hD:=h.depth;have hT:=h.tot;rw[dV,dV]at hO hF hD;rw[jd,jd]at hT;have hp:=hO.pop (j:=f1.ins++[.mk f2.tok f2.ins]);refine⟨Yd,?_,?_,?_,?_,h.d6,hc,hb,?_⟩
 .rw[dV,ht,hi];exact hp.2
 .rw[dV,ht,hi,<-hF];rcases hr with⟨rfl,rfl⟩|⟨t,rfl,hs⟩
  .rw[YV]
  .rw[SS _ _ _ _ _ hs hp.1]
 .rw[dV,ht,hi,SV _ _ _ _ _ hp.1];exact hD
 .rw[jd,hi];rcases hr with⟨rfl,rfl⟩|⟨t,rfl,hs⟩
  .simp at hT⊢;omega
  .simp at hT⊢;omega
 .rcases hr with⟨rfl,rfl⟩|⟨t,rfl,hs⟩
  .exact h.sub
  .exact fun q hq=>h.sub q (by simp[hq])
theorem Iw.opened(h:Iw w all c cap n (t::rest) r v L d wr)(Yd:sO w.heap.size wr' v' (L++[⟨t,[],.slice none 0 0,[]⟩]))(ht:closing t≠aA)(hc:wr'.heap[c]?=some (.chan cap (rest.map aF).toArray true n r' false))(hb:Turn c w wr'):Iw w all c cap n rest r' v' (L++[⟨t,[],.slice none 0 0,[]⟩]) (max d L.length) wr':=by
 have hO:=h.opens;have hT:=h.tot;have hl:=Gu L;refine⟨Yd,?_,?_,?_,?_,?_,hc,hb,fun q hq=>h.sub q (by simp[hq])⟩
 .rw[dV];exact hO.push ht []
 .rw[dV,<-h.fin];obtain⟨⟨t0,i0⟩,R,e⟩:∃x R,mJ L=x::R:=by
   cases hq:mJ L with
   |nil=>exact absurd hq hO.ne
   |cons x R=>exact⟨x,R,rfl⟩
  rw[e]at hO⊢;exact VE ht t0 i0 R rest hO
 .rw[dV,VH,Lh,<-h.depth]
 .rw[jd];simp at hT⊢;omega
 .have:=h.d6;simp at hT;omega
theorem Iw.leaf(h:Iw w all c cap n (t::rest) r v (L++[f1]) d wr)(Yd:sO w.heap.size wr' v' (L++[f]))(hf:f.tok=f1.tok)(hi:f.ins=f1.ins++[.mk t []])(ht:closing t=aA)(hn:¬(closing f1.tok≠aA/\ay t (closing f1.tok)=true))
  (hc:wr'.heap[c]?=some (.chan cap (rest.map aF).toArray true n r' false)) (hb:Turn c w wr'):Iw w all c cap n rest r' v' (L++[f]) d wr':=by
 have hO:=h.opens;have hF:=h.fin;have hD:=h.depth;have hT:=h.tot;rw[dV]at hO hF hD;rw[jd]at hT;refine⟨Yd,?_,?_,?_,?_,h.d6,hc,hb,fun q hq=>h.sub q (by simp[hq])⟩
 .rw[dV,hf,hi];exact lV.same hO
 .rw[dV,hf,hi,<-hF];exact VF ht _ _ _ _ hn
 .rw[dV,hf,hi,VG ht];exact hD
 .rw[jd,hi];simp at hT⊢;omega
end
set_option linter.unusedSimpArgs false in
theorem acg(all:List Tok)(c cap n r0:Nat)(w:World)(hch:w.heap[c]?=some (.chan cap (all.map aF).toArray true n r0 false))(h6:all.length<=600)(hok:∀t∈all,cZ t):
  Calls prog 50 #[.chan (some c)] w fun e w'=>∃v,e=.returned (.tuple #[v,.int .i64 (depth (nodes all):Int)])/\Sl (vV w.heap.size w') w' v (nodes all)/\Turn c w w':=by
 have Ye:c<w.heap.size:=(Array.getElem?_eq_some_iff.1 hch).1;have tY:Hid (∀t∈all,cZ t):=hok;have I0:Hid (Iw w all c cap n all r0 (.slice (some ⟨w.heap.size,0,none⟩) 1 1) [⟨Tok.k 0,[],.slice none 0 0,[]⟩] 0 (w.alloc (.cells #[.int .i64 0,.string ⟨#[]⟩,.string ⟨#[]⟩,.string ⟨#[]⟩,.slice none 0 0] 164))):=⟨sO.first w,rfl,S9 all,rfl,by simp[sumF];omega,oo,by rw[Below.heap_alloc _ _ _ Ye];exact hch,(Turn.refl c w).alloc _,fun _ h=>h⟩
 clear hch hok;obtain⟨iT,hiT⟩:=Yc;have HI:Hid (prog.info? 164=some iT/\iT.zero=some (.agg #[.int .i64 0,.string ⟨#[]⟩,.string ⟨#[]⟩,.string ⟨#[]⟩,.slice none 0 0])/\iT.size=5/\iT.bytes=80):=hiT;clear hiT;refine Ad Tryz.func50 rfl ?_;simp only[Tryz.ntmps50,List.size_toArray,List.length_cons,List.length_nil,Nat.reduceAdd,Nat.reduceSub,Array.replicate_succ,
   Array.replicate_zero,List.push_toArray,List.append_toArray,List.nil_append,List.cons_append]
 refine nP (jZ ?_);go_wp2_with fail;refine nP (jZ ?_);go_wp2_with fail;refine nP ?_;refine nP (jZ ?_);go_wp2_with fail;refine BA ?_
 refine L9 (fun m a wr=>∃(rest:List Tok) (v:Value) (L:List Fr) (d r:Nat) (u5 u6 u7 u11 u12 u13 u14 u15 u16 u17 u18 u19 u20 u21 u22 u23 u24 u25 u26 u27 u28 u29 u30 u31 u32 u33 u34 u35 u36 u37 u38 u39 u40 u41 u42 u43 u44 u45 u46 u47 u48 u49 u50 u51 u52 u53 u54 u55 u56 u57 u58 u59 u60:Value),a=⟨#[.chan (some c),undef,.slice none 0 0,.int .i64 (d:Int),v,u5,u6,u7,.agg #[.int .i64 0,.string ⟨#[]⟩,.string ⟨#[]⟩,.string ⟨#[]⟩,.slice none 0 0],.slice (some ⟨w.heap.size,0,none⟩) 1 1,.chan (some c),u11,u12,u13,u14,u15,u16,u17,u18,u19,u20,u21,u22,u23,u24,u25,u26,u27,u28,u29,u30,u31,u32,u33,u34,u35,u36,u37,u38,u39,u40,u41,u42,u43,u44,u45,u46,u47,u48,u49,u50,u51,u52,u53,u54,u55,u56,u57,u58,u59,u60,undef,undef,undef,undef,undef,undef,undef,undef,undef,undef],[]⟩/\rest.length=m/\Iw w all c cap n rest r v L d wr) all.length
  ⟨all,_,_,0,r0,_,_,_,_,_,_,_,_,_,_,_,_,_,_,_,_,_,_,_,_,_,_,_,_,_,_,_,_,_,_,_,_,_,_,_,_,_,_,_,_,_,_,_,_,_,_,_,_,_,_,_,_,_,rfl,rfl,I0.o⟩ ?_
 rintro gk _ wr ⟨rest,v,L,d,r,u5,u6,u7,u11,u12,u13,u14,u15,u16,u17,u18,u19,u20,u21,u22,u23,u24,u25,u26,u27,u28,u29,u30,u31,u32,u33,u34,u35,u36,u37,u38,u39,u40,u41,u42,u43,u44,u45,u46,u47,u48,u49,u50,u51,u52,u53,u54,u55,u56,u57,u58,u59,u60,rfl,hlen,hI⟩;obtain⟨L,f,rfl⟩:=hI.snoc;obtain⟨g,vc,rfl⟩:=hI.stk.form;have HI2:Hid (Iw w all c cap n rest r (.slice (some ⟨g,0,none⟩) (L.length+1) vc) (L++[f]) d wr):=hI;have hLf:L.length+f.ins.length+rest.length<=600:=by have:=hI.tot;rw[jd]at this;have:=Gu L;omega
 have hd6:d<=600:=by have:=hI.d6;omega
 have HLen:Hid (rest.length=gk):=hlen;clear hI hlen I0;refine nP ?_;refine EX ?_;show Left _ _ _ [0,1] _ _;cases rest with
 |nil=>
  refine EY (c:=c) (cap:=cap) (s:=n) (r:=r) (z:=.agg #[.int .i64 0,.string ⟨#[]⟩,.string ⟨#[]⟩]) (tm:=false) (w1:=wr) rfl rfl (by simp[go_sem,rcase]) HI2.o.chan ?_;refine yF (v:=.bool false) (w':=wr) rfl rfl (by simp[go_sem]) ?_;refine left_nil ?_
  change Rt _ _ _ ⟨#[.chan (some c),undef,.slice none 0 0,.int .i64 (d:Int),.slice (some ⟨g,0,none⟩) (L.length+1) vc,u5,u6,u7,.agg #[.int .i64 0,.string ⟨#[]⟩,.string ⟨#[]⟩,.string ⟨#[]⟩,.slice none 0 0],.slice (some ⟨w.heap.size,0,none⟩) 1 1,.chan (some c),.tuple #[.agg #[.int .i64 0,.string ⟨#[]⟩,.string ⟨#[]⟩],.bool false],.bool false,u13,u14,u15,u16,u17,u18,u19,u20,u21,u22,u23,u24,u25,u26,u27,u28,u29,u30,u31,u32,u33,u34,u35,u36,u37,u38,u39,u40,u41,u42,u43,u44,u45,u46,u47,u48,u49,u50,u51,u52,u53,u54,u55,u56,u57,u58,u59,u60,undef,undef,undef,undef,undef,undef,undef,undef,undef,undef],[]⟩ wr;refine jZ ?_;go_wp2_with fail;refine jZ ?_;clear HLen;go_wp2_with fail
  go_loopg[4] L.length (fun gg v4 wq=>∃(L:List Fr) (f:Fr) (g vc:Nat),v4=.slice (some ⟨g,0,none⟩) (L.length+1) vc/\gg=L.length/\L.length+f.ins.length<=600/\Aside (Iw w all c cap n [] r (.slice (some ⟨g,0,none⟩) (L.length+1) vc) (L++[f]) d wq));case atStart=>exact⟨L,f,g,vc,rfl,rfl,by simpa using hLf,HI2.o⟩
  case round=>
   obtain⟨L1,f1,g1,vc1,rfl,rfl,ae1,hA⟩:=hrel;have HI3:Hid (Iw w all c cap n [] r (.slice (some ⟨g1,0,none⟩) (L1.length+1) vc1) (L1++[f1]) d wr):=hA.o;clear hA HI2;rcases List.eq_nil_or_concat L1 with e|⟨L2,f2,e⟩
   .subst e;have HF:Hid (nodes all=f1.ins):=by
     show _=_;rw[<-HI3.o.fin];show fin (mJ ([]++[f1])) []=_;rw[dV];show fin [(f1.tok,f1.ins)] []=_;rw[vZ,kJ];simp
    have HD:Hid (d=depth f1.ins):=by show _=_;rw[HI3.o.depth,dV];simp[mJ,dst]
    obtain⟨_,hsl⟩:=HI3.o.stk.drop oo rfl;have HSL:Hid (Sl (vV w.heap.size wr) wr f1.v f1.ins):=hsl.keep (fun _ hg=>⟨hg.1,hg.2.1⟩) fun _ _=>rfl;have c4:=HI3.o.stk.last rfl 4 _ rfl;have hT:Hid (Turn c w wr):=HI3.o.turn;simp only[List.length_nil,Nat.zero_mul,Nat.zero_add]at c4;clear hsl HI3;simp only[List.length_nil,Nat.zero_add];go_wp2_with fail;go_ret2
    exact⟨f1.v,by rw[HF.o,HD.o];rfl,by rw[HF.o];exact HSL.o,hT.o⟩
   .rw[List.concat_eq_append]at e;subst e;have hl2:(L2++[f2]).length=L2.length+1:=by simp
    rw[hl2]at ae1 HI3⊢;have YA:(1:Int)<(L2.length:Int)+1+1:=oo;have hf2:f2.ins.length<=600:=by have:=HI3.o.tot;rw[jd,jd]at this;omega
    have hbs:=HI3.o.turn.size;clear hl2;go_wp2_with fail;refine(Dj w.heap.size L2 f2 f1 _ wr HI3.o.stk oo hf2 oo hbs).mono ?_;rintro e w5 ⟨v5,f5,rfl,hst5,ht5,hi5,hb5⟩;have HI5:Hid (Iw w all c cap n [] r v5 (L2++[f5]) d w5):=HI3.o.close hst5 ht5 hi5 (.inl ⟨rfl,rfl⟩) (by rw[hb5.block c Ye];exact HI3.o.chan) (HI3.o.turn.upon hb5);have hf5:L2.length+f5.ins.length<=600:=by have q1:=HI5.o.tot;rw[jd]at q1;have q2:=Gu L2;simp only[List.length_nil]at q1;omega
    obtain⟨g5,vc5,e5⟩:=hst5.form;subst e5;clear hst5 ht5 hi5 hb5 HI3;go_wp2_with fail;go_roundg L2.length;case measure=>simp
    case rel=>exact⟨L2,f5,g5,vc5,rfl,rfl,hf5,HI5.o⟩
 |cons t rest=>
  refine TG (c:=c) (cap:=cap) (s:=n) (r:=r) (closed:=true) (buf:=((t::rest).map aF).toArray) (z:=.agg #[.int .i64 0,.string ⟨#[]⟩,.string ⟨#[]⟩]) (tm:=false) (w1:=wr) rfl rfl (by simp[go_sem,rcase]) HI2.o.chan (by simp) ?_;have e1:((t::rest).map aF).toArray.getD 0 undef=.agg #[.int .i64 t.kind,.string t.word,.string t.unit]:=rfl;have e2:((t::rest).map aF).toArray.extract 1 ((t::rest).map aF).toArray.size=(rest.map aF).toArray:=by apply Array.ext';simp;exact List.take_of_length_le (by simp)
  rw[e1,e2];have Zx:Hid ((wr.setChan c cap (rest.map aF).toArray true n (r+1) false).heap[c]?=some (.chan cap (rest.map aF).toArray true n (r+1) false)):=heap_setChan _ _ _ _ _ _ _ _ (by have:=HI2.o.turn.size;omega);have uD:Hid (sO w.heap.size (wr.setChan c cap (rest.map aF).toArray true n (r+1) false) (.slice (some ⟨g,0,none⟩) (L.length+1) vc) (L++[f])):=HI2.o.stk.keep (by rw[size_setChan];omega) fun k hk _=>kF _ _ _ _ _ _ _ _ oo;have HT3:Hid (Turn c w (wr.setChan c cap (rest.map aF).toArray true n (r+1) false)):=HI2.o.turn.setChan _ _ _ _ _ _;generalize wr.setChan c cap (rest.map aF).toArray true n (r+1) false=wx at *;clear e1 e2;refine yF (v:=.bool true) (w':=wx) rfl rfl (by simp[go_sem]) ?_;refine left_nil ?_
  change Rt _ _ _ ⟨#[.chan (some c),undef,.slice none 0 0,.int .i64 (d:Int),.slice (some ⟨g,0,none⟩) (L.length+1) vc,u5,u6,u7,.agg #[.int .i64 0,.string ⟨#[]⟩,.string ⟨#[]⟩,.string ⟨#[]⟩,.slice none 0 0],.slice (some ⟨w.heap.size,0,none⟩) 1 1,.chan (some c),.tuple #[.agg #[.int .i64 t.kind,.string t.word,.string t.unit],.bool true],.bool true,u13,u14,u15,u16,u17,u18,u19,u20,u21,u22,u23,u24,u25,u26,u27,u28,u29,u30,u31,u32,u33,u34,u35,u36,u37,u38,u39,u40,u41,u42,u43,u44,u45,u46,u47,u48,u49,u50,u51,u52,u53,u54,u55,u56,u57,u58,u59,u60,undef,undef,undef,undef,undef,undef,undef,undef,undef,undef],[]⟩ wx;refine jZ ?_;simp only[List.length_cons]at hLf;have hws:=HT3.o.size
  have l0:∀j u,[Value.int .i64 t.kind,.string t.word,.string t.unit][j]?=some u->(wx.alloc (.cells #[.int .i64 t.kind,.string t.word,.string t.unit] 68)).cell? ⟨wx.heap.size,j,none⟩=some u:=by intro j u hu;rw[World.cell?_alloc_mark,<-hu];simp
  have L0:Hid (∀j u,[Value.int .i64 t.kind,.string t.word,.string t.unit][j]?=some u->(wx.alloc (.cells #[.int .i64 t.kind,.string t.word,.string t.unit] 68)).cell? ⟨wx.heap.size,j,none⟩=some u):=l0;have HK4:Hid (sO w.heap.size (wx.alloc (.cells #[.int .i64 t.kind,.string t.word,.string t.unit] 68)) (.slice (some ⟨g,0,none⟩) (L.length+1) vc) (L++[f])):=uD.o.keep (by simp) fun k _ hk=>Below.heap_alloc _ _ _ hk;have HT4:Hid (Turn c w (wx.alloc (.cells #[.int .i64 t.kind,.string t.word,.string t.unit] 68))):=HT3.o.alloc _;have Du:Hid ((wx.alloc (.cells #[.int .i64 t.kind,.string t.word,.string t.unit] 68)).heap[c]?=some (.chan cap (rest.map aF).toArray true n (r+1) false)):=by show _=_;rw[Below.heap_alloc _ _ _ oo];exact Zx.o
  have hz4:wx.heap.size<(wx.alloc (.cells #[.int .i64 t.kind,.string t.word,.string t.unit] 68)).heap.size:=by simp
  have hgt:g<wx.heap.size:=(uD.o.row.lt g rfl).2;have HFG:Hid (∀k,f.v.ownBlock=some k->k<wx.heap.size):=fun k hk=>((uD.o.own f (by simp)).lt k hk).2;clear l0 Zx uD HT3;go_upto_region 6 with fail
  generalize wx.alloc (.cells #[.int .i64 t.kind,.string t.word,.string t.unit] 68)=w2 at *;generalize wx.heap.size=gt at *;have t0:=L0.o 0 _ rfl;have t1:=L0.o 1 _ rfl;have t2:=L0.o 2 _ rfl;clear L0;go_wp2_with fail;refine pmb (Ed t _) fun w3 hb3=>?_;have hw2:=HT4.o.size;have TV:Hid (sO w.heap.size w3 (.slice (some ⟨g,0,none⟩) (L.length+1) vc) (L++[f])):=HK4.o.keep hb3.size fun k _ hk=>hb3.block k hk;have HT5:Hid (Turn c w w3):=HT4.o.upon (hb3.mono hw2);have Qp:Hid (w3.heap[c]?=some (.chan cap (rest.map aF).toArray true n (r+1) false)):=by show _=_;rw[hb3.block c oo];exact Du.o
  have T0:w3.cell? ⟨gt,0,none⟩=some (.int .i64 t.kind):=(hb3.cell (by exact hz4)).trans t0;have T1:w3.cell? ⟨gt,1,none⟩=some (.string t.word):=(hb3.cell (by exact hz4)).trans t1;have T2:w3.cell? ⟨gt,2,none⟩=some (.string t.unit):=(hb3.cell (by exact hz4)).trans t2;have hz5:gt<w3.heap.size:=Nat.lt_of_lt_of_le hz4 hb3.size;have ach:Hid (cZ t):=tY.o t (HI2.o.sub t (by simp));clear hb3 HK4 HT4 Du t0 t1 t2 hz4;cases hcl:(closing t).toList==([]:List UInt8)
  .have hcl':closing t≠aA:=by
    rw[aH]at hcl;simpa[aA]using hcl
   have nU:Hid (closing t≠aA):=hcl';clear hcl';obtain⟨xs,Hxs⟩:∃xs,Hid ((L++[f]).flatMap Fr.cells=xs):=⟨_,hid rfl⟩;have aci:Hid (w3.ownsRow w.heap.size 164 5 (.slice (some ⟨g,0,none⟩) (L.length+1) vc) (L.length+1) xs):=by have:=TV.o.row;rw[List.length_append,Hxs.o]at this;exact this
   have hw3:=HT5.o.size;go_wp2_with(at_builtin;go_must(refine wpList_append_own_at _ rfl _ _ 165 rfl w.heap.size 164 iT (.agg #[.int .i64 0,.string ⟨#[]⟩,.string ⟨#[]⟩,.string ⟨#[]⟩,.slice none 0 0]) 5 80 Tryz.underlying165 HI.o.1 HI.o.2.1 HI.o.2.2.1 HI.o.2.2.2 rfl oo (.slice (some ⟨g,0,none⟩) (L.length+1) vc) (L.length+1) xs rfl (aci.o.alloc _) ⟨w3.heap.size,0,none⟩ 1 1 [.int .i64 t.kind,.string t.word,.string t.unit,.string (closing t),.slice none 0 0] rfl rfl (ae0 _ _ _ _ _ _ _) (by simp[Value.oneCell']) (by unfold maxLen;omega) oo (by simp;omega) ?_));intro v4 w4 hown4 bG _ fK;have hgl:∀rr,Value.ownBlock (.slice (some ⟨g,0,none⟩) (L.length+1) vc)=some rr->w.heap.size<=rr:=fun rr hr=>(aci.o.lt rr hr).1
   have UJ:Hid (sO w.heap.size w4 v4 (L++[f]++[⟨t,[],.slice none 0 0,[]⟩])):=TV.o.push t ach.o (by rw[List.length_append,Hxs.o];exact hown4) (by have:=bG.size;simp at this;omega) (fun k hk h1=>by rw[bG.block k (by simp;omega) h1,Below.heap_alloc _ _ _ hk]) (by rcases fK with e|e;exact .inl e;exact .inr ⟨_,e,by simp⟩);have HB6:Below w.heap.size w3 w4:=((Below.refl _ _).alloc hw3 _).grown bG (by simp;omega) hgl;have HI6:Hid (Iw w all c cap n rest (r+1) v4 (L++[f]++[⟨t,[],.slice none 0 0,[]⟩]) (max d (L.length+1)) w4):=by have:=HI2.o.opened (r':=r+1) UJ.o nU.o (by rw[HB6.block c Ye];exact Qp.o) (HT5.o.upon HB6);rwa[List.length_append]at this
   obtain⟨g4,vc4,e4⟩:=vW hown4;subst e4;clear hown4 bG fK HB6 UJ TV HT5 Qp HI2 aci;have N9:rest.length<gk:=by have:=HLen.o;simp at this;omega
   have em:max (d:Int) ((L.length:Int)+1)=((max d (L.length+1):Nat):Int):=oo;have EM:Hid (max (d:Int) ((L.length:Int)+1)=((max d (L.length+1):Nat):Int)):=em;clear em;go_wp2_with fail;rw[EM.o];exact⟨rest.length,N9,rest,_,_,max d (L.length+1),r+1,_,_,_,_,_,_,_,_,_,_,_,_,_,_,_,_,_,_,_,_,_,_,_,_,_,_,_,_,_,_,_,_,_,_,_,_,_,_,_,_,_,_,_,_,_,_,_,_,_,_,_,_,_,rfl,rfl,HI6.o⟩
  .have hcl':closing t=aA:=by
    rw[aH]at hcl;simpa[aA]using hcl
   have nU:Hid (closing t=aA):=hcl';clear hcl';have hw3:=HT5.o.size;have c3:w3.cell? ⟨g,L.length*5+3,none⟩=some (.string (closing f.tok)):=TV.o.last rfl 3 _ rfl;obtain⟨b,Hb⟩:∃b,Hid ((t.kind==15&&(t.word.toList==(closing f.tok).toList))=b):=⟨_,hid rfl⟩;have q1:(0:Int)<=(L.length:Int):=oo;have q2:(L.length:Int)<(L.length:Int)+1:=oo;have N9:rest.length<gk:=by have:=HLen.o;simp at this;omega
   go_upto_region 11 with fail
   go_cut [45] from 11 to 60 (fun s45 wx=>s45=.bool b/\∃nq,wx=w3.drewN nq);case first=>
    cases hk:(t.kind==15)
    .have hb:b=false:=by rw[<-Hb.o,hk];rfl
     subst hb;go_quiet (fail)
     go_wp2_with fail;go_meet
     exact⟨rfl,_,rfl⟩
    .have hb:b=(t.word.toList==(closing f.tok).toList):=by rw[<-Hb.o,hk];rfl
     subst hb;go_quiet (fail)
     go_wp2_with fail;go_meet
     exact⟨rfl,_,rfl⟩
   case rest=>
   obtain⟨rfl,nq,rfl⟩:=hcut;have ae2:gt<(w3.drewN nq).heap.size:=hz5;have UJ:Hid (sO w.heap.size (w3.drewN nq) (.slice (some ⟨g,0,none⟩) (L.length+1) vc) (L++[f])):=TV.o.keep nl fun _ _ _=>rfl;have HT6:Hid (Turn c w (w3.drewN nq)):=HT5.o.drewN nq;have AX:Hid ((w3.drewN nq).heap[c]?=some (.chan cap (rest.map aF).toArray true n (r+1) false)):=Qp.o;have s0:(w3.drewN nq).cell? ⟨gt,0,none⟩=some (.int .i64 t.kind):=T0;have s1:(w3.drewN nq).cell? ⟨gt,1,none⟩=some (.string t.word):=T1;have s2:(w3.drewN nq).cell? ⟨gt,2,none⟩=some (.string t.unit):=T2;have hw6:w.heap.size<=(w3.drewN nq).heap.size:=hw3;generalize w3.drewN nq=w6 at *;clear TV HT5 Qp T0 T1 T2 c3 hz5 hw3;cases b
   .have hb:=Hb.o;have HN:Hid (¬(closing f.tok≠aA/\ay t (closing f.tok)=true)):=by
     intro hh;have h2:=hh.2;unfold ay at h2;simp only[Bool.and_eq_true,decide_eq_true_eq]at h2;have h3:=bytes_beq t.word (closing f.tok);rw[h2.2]at h3;rw[h2.1,h2.2]at hb;simp at h3 hb
    clear hb Hb;obtain⟨iV,hiV⟩:=N8;have HV:Hid (prog.info? 168=some iV/\iV.zero=some (.agg #[.int .i64 0,.string ⟨#[]⟩,.string ⟨#[]⟩,.slice none 0 0])/\iV.size=4/\iV.bytes=64):=hiV;clear hiV;have O6:Hid (w6.ownsRow w.heap.size 168 4 f.v f.ins.length f.cs):=UJ.o.own f (by simp);obtain⟨ka,kc,e1⟩:=iL O6.o;have hap:some g≠f.v.ownBlock:=fun e2=>UJ.o.apart (f:=f) (by simp) g rfl e2.symm;have hgb:=UJ.o.row.lt g rfl;have hf:w6.cell? ⟨g,L.length*5+4,none⟩=some f.v:=UJ.o.last rfl 4 _ rfl;have hz4:w6.frozen? ⟨g,L.length*5+4,none⟩=false:=by have hr:=UJ.o.row;rw[List.length_append]at hr;exact hr.frozenAt _
    have aar:Hid (∀(gv vcv:Nat) (X:Obj) (w8:World),w8.ownsRow w.heap.size 168 4 (.slice (some ⟨gv,0,none⟩) (f.ins.length+1) vcv) (f.ins.length+1) (f.cs++[.int .i64 0,.string ⟨#[]⟩,.string ⟨#[]⟩,.slice none 0 0])->(w6.drew.alloc X).grownBy w8 f.v.ownBlock->(some gv=f.v.ownBlock\/some gv=some (w6.drew.alloc X).heap.size)->Iw w all c cap n rest (r+1) (.slice (some ⟨g,0,none⟩) (L.length+1) vc) (L++[⟨f.tok,f.ins++[.mk t []],.slice (some ⟨gv,0,none⟩) (f.ins.length+1) vcv,f.cs++[.int .i64 t.kind,.string t.word,.string t.unit,.slice none 0 0]⟩]) d (((((w8.setCell ⟨g,L.length*5+4,none⟩ (.slice (some ⟨gv,0,none⟩) (f.ins.length+1) vcv)).setCell ⟨gv,f.ins.length*4,none⟩ (.int .i64 t.kind)).setCell ⟨gv,f.ins.length*4+1,none⟩ (.string t.word)).setCell ⟨gv,f.ins.length*4+2,none⟩ (.string t.unit)).setCell ⟨gv,f.ins.length*4+3,none⟩ (.slice none 0 0))):=by
     intro gv vcv X w8 hown hgr hat;have Ag:w.heap.size<=gv:=(hown.lt gv rfl).1;have hlo:∀rr,f.v.ownBlock=some rr->w.heap.size<=rr:=fun rr hr=>(O6.o.lt rr hr).1;have hst:=UJ.o.put (W:=w6.drew.alloc X) rfl (.mk t []) _ ⟨Sl.nil _ _,ach.o⟩ (by simp) (fun k hk=>Below.heap_alloc _ _ _ hk) hown hgr hat;have hb:Below w.heap.size w6 (((((w8.setCell ⟨g,L.length*5+4,none⟩ (.slice (some ⟨gv,0,none⟩) (f.ins.length+1) vcv)).setCell ⟨gv,f.ins.length*4,none⟩ (.int .i64 t.kind)).setCell ⟨gv,f.ins.length*4+1,none⟩ (.string t.word)).setCell ⟨gv,f.ins.length*4+2,none⟩ (.string t.unit)).setCell ⟨gv,f.ins.length*4+3,none⟩ (.slice none 0 0)):=((((((((Below.refl _ _).drew.alloc hw6 X).grown hgr (by simp;omega) hlo).setCell hgb.1 _).setCell Ag _).setCell Ag _).setCell Ag _).setCell Ag _)
     exact HI2.o.leaf hst rfl rfl nU.o HN.o (by rw[hb.block c Ye];exact AX.o) (HT6.o.upon hb)
    rw[e1]at hf O6 hap HFG aar;have KS:Hid (∀(W:World) (k o:Nat) (u:Value),k≠gt->(fun wx=>wx.cell? ⟨gt,0,none⟩=some (.int .i64 t.kind)/\wx.cell? ⟨gt,1,none⟩=some (.string t.word)/\wx.cell? ⟨gt,2,none⟩=some (.string t.unit)) W->(fun wx=>wx.cell? ⟨gt,0,none⟩=some (.int .i64 t.kind)/\wx.cell? ⟨gt,1,none⟩=some (.string t.word)/\wx.cell? ⟨gt,2,none⟩=some (.string t.unit)) (W.setCell ⟨k,o,none⟩ u)):=by intro W k o u hk hS;have e:∀j,(W.setCell ⟨k,o,none⟩ u).cell? ⟨gt,j,none⟩=W.cell? ⟨gt,j,none⟩:=fun j=>World.cell?_of_block (w:=W) (Below.heap_setCell _ _ _ _ (by show gt≠k;exact fun e=>hk e.symm));exact⟨(e 0).trans hS.1,(e 1).trans hS.2.1,(e 2).trans hS.2.2⟩
    have r2:(f.ins.length:Int)<(f.ins.length:Int)+1:=oo;have ae3:Hid (f.cs.length=f.ins.length*4):=O6.o.1;have xq:(fun wx=>wx.cell? ⟨gt,0,none⟩=some (.int .i64 t.kind)/\wx.cell? ⟨gt,1,none⟩=some (.string t.word)/\wx.cell? ⟨gt,2,none⟩=some (.string t.unit)) w6.drew:=⟨s0,s1,s2⟩;have Ou:(fun wx=>wx.cell? ⟨gt,0,none⟩=some (.int .i64 t.kind)/\wx.cell? ⟨gt,1,none⟩=some (.string t.word)/\wx.cell? ⟨gt,2,none⟩=some (.string t.unit)) (w6.drew.alloc (.cells #[.int .i64 0,.string ⟨#[]⟩,.string ⟨#[]⟩,.slice none 0 0] 168)):=by have e:∀j,(w6.drew.alloc (.cells #[.int .i64 0,.string ⟨#[]⟩,.string ⟨#[]⟩,.slice none 0 0] 168)).cell? ⟨gt,j,none⟩=w6.drew.cell? ⟨gt,j,none⟩:=fun j=>World.cell?_of_block (w:=w6.drew) (Below.heap_alloc _ _ _ ae2);exact⟨(e 0).trans s0,(e 1).trans s1,(e 2).trans s2⟩
    have hfA:(w6.drew.alloc (.cells #[.int .i64 0,.string ⟨#[]⟩,.string ⟨#[]⟩,.slice none 0 0] 168)).cell? ⟨g,L.length*5+4,none⟩=some (.slice ka f.ins.length kc):=(World.cell?_of_block (w:=w6.drew) (a:=⟨g,L.length*5+4,none⟩) (Below.heap_alloc _ _ _ hgb.2)).trans hf;clear HI2 UJ HT6 AX s0 s1 s2;go_wp2_with fail;refine wp_region_held_drew (S:=(fun wx=>wx.cell? ⟨gt,0,none⟩=some (.int .i64 t.kind)/\wx.cell? ⟨gt,1,none⟩=some (.string t.word)/\wx.cell? ⟨gt,2,none⟩=some (.string t.unit))) (by kernel_rfl) xq (fun _=>?_);refine Ve 0 rfl xq (fun _ _=>gs) ?_;refine Ve 1 rfl xq (fun _ _=>gs) ?_;refine Ve 2 rfl xq (fun _ _=>gs) ?_;refine Ve 3 rfl xq (fun _ _=>gs) ?_
    refine Ve 5 rfl xq (by intro w hSw;obtain⟨z0,z1,z2⟩:=hSw;exact gs) ?_;refine Ve 6 rfl xq (fun _ _=>gs) ?_;refine wpAnyH_ready (rs:=[4,8]) (by kernel_rfl) (by simp) ?_;refine AllReadyH.cons rfl (fun K hK=>?_) (AllReadyH.cons rfl (fun K hK=>?_) AllReadyH.nil);focus
     go_simp;refine hK.o _ _ xq (fun _=>?_);clear hK K;refine Ve 7 rfl xq (fun _ _=>gs) ?_;refine jh 8 fun K hK=>?_;go_simp;refine hK.o _ _ (Ou) (fun _=>?_);clear hK K
    rotate_left;focus
     go_simp;refine hK.o _ _ Ou (fun _=>?_);clear hK K;refine jh 4 fun K hK=>?_;go_simp;refine hK.o _ _ (Ou) (fun _=>?_);clear hK K;refine Ve 7 rfl Ou (fun _ _=>gs) ?_
    rotate_left;all_goals
     refine wpAnyH_ready (rs:=[9]) (by kernel_rfl) (by simp) ?_;refine AllReadyH.cons rfl (fun K hK=>?_) AllReadyH.nil;refine fZ rfl (.tmp 23) (.tmp 27) 111 rfl w.heap.size 168 iV (.agg #[.int .i64 0,.string ⟨#[]⟩,.string ⟨#[]⟩,.slice none 0 0]) 4 64 Tryz.underlying111 HV.o.1 HV.o.2.1 HV.o.2.2.1 HV.o.2.2.2 rfl oo (.slice ka f.ins.length kc) f.ins.length f.cs (by simp[Act.eval]) (O6.o.drew.alloc _) ⟨w6.heap.size,0,none⟩ 1 1 [.int .i64 0,.string ⟨#[]⟩,.string ⟨#[]⟩,.slice none 0 0] (by simp[Act.eval]) rfl (GR _ _ _ _ _ _) (by simp[Value.oneCell']) (by unfold maxLen;omega) oo (by simp;omega) ?_;intro v8 w8 eH kT Ii;obtain⟨gv,vcv,e8⟩:=vW eH;subst e8;have adX:w8.heap[g]?=w6.heap[g]?:=(kT.block g (by simp;omega) hap).trans (Below.heap_alloc _ _ _ hgb.2)
     have afL:w8.cell? ⟨g,L.length*5+4,none⟩=some (.slice ka f.ins.length kc):=(World.cell?_of_block (w:=w6) (a:=⟨g,L.length*5+4,none⟩) adX).trans hf;have afM:w8.frozen? ⟨g,L.length*5+4,none⟩=false:=(World.frozen?_of_block (w:=w6) (a:=⟨g,L.length*5+4,none⟩) adX).trans hz4;have TQ:¬gv=g:=by
      rintro rfl;rcases Ii with e2|e2
      .exact hap e2
      .simp[Value.ownBlock]at e2;omega
     have adW:¬g=gv:=fun e=>TQ e.symm;have DR:gv≠gt:=by
      rintro rfl;rcases Ii with e2|e2
      .have:=HFG.o gv e2.symm;omega
      .simp[Value.ownBlock]at e2;omega
     have acj:g≠gt:=oo;obtain⟨x0,x1,x2,x3⟩:=Ee eH ae3.o;have k0:=eH.frozenAt (f.ins.length*4);have k1:=eH.frozenAt (f.ins.length*4+1);have k2:=eH.frozenAt (f.ins.length*4+2);have k3:=eH.frozenAt (f.ins.length*4+3);have WO:(fun wx=>wx.cell? ⟨gt,0,none⟩=some (.int .i64 t.kind)/\wx.cell? ⟨gt,1,none⟩=some (.string t.word)/\wx.cell? ⟨gt,2,none⟩=some (.string t.unit)) w8:=by have hbt:w8.heap[gt]?=(w6.drew.alloc (.cells #[.int .i64 0,.string ⟨#[]⟩,.string ⟨#[]⟩,.slice none 0 0] 168)).heap[gt]?:=kT.block gt (by simp;omega) (fun e=>by have:=HFG.o gt e.symm;omega);have e:∀j,w8.cell? ⟨gt,j,none⟩=(w6.drew.alloc (.cells #[.int .i64 0,.string ⟨#[]⟩,.string ⟨#[]⟩,.slice none 0 0] 168)).cell? ⟨gt,j,none⟩:=fun j=>World.cell?_of_block (w:=w6.drew.alloc (.cells #[.int .i64 0,.string ⟨#[]⟩,.string ⟨#[]⟩,.slice none 0 0] 168)) hbt;exact⟨(e 0).trans Ou.1,(e 1).trans Ou.2.1,(e 2).trans Ou.2.2⟩
     have HIB:=aar.o gv vcv _ w8 eH kT Ii;have HI8:Hid (Iw w all c cap n rest (r+1) (.slice (some ⟨g,0,none⟩) (L.length+1) vc) (L++[⟨f.tok,f.ins++[.mk t []],.slice (some ⟨gv,0,none⟩) (f.ins.length+1) vcv,f.cs++[.int .i64 t.kind,.string t.word,.string t.unit,.slice none 0 0]⟩]) d (((((w8.setCell ⟨g,L.length*5+4,none⟩ (.slice (some ⟨gv,0,none⟩) (f.ins.length+1) vcv)).setCell ⟨gv,f.ins.length*4,none⟩ (.int .i64 t.kind)).setCell ⟨gv,f.ins.length*4+1,none⟩ (.string t.word)).setCell ⟨gv,f.ins.length*4+2,none⟩ (.string t.unit)).setCell ⟨gv,f.ins.length*4+3,none⟩ (.slice none 0 0))):=HIB;clear HIB eH kT Ii;refine hK.o _ _ WO (fun _=>?_);clear hK K;refine Ve 10 rfl WO (fun _ _=>gs) ?_;refine Ve 12 rfl WO (fun _ _=>gs) ?_
     refine Ve 13 rfl WO (fun _ _=>gs) ?_;refine wpAnyH_ready (rs:=[11,14]) (by kernel_rfl) (by simp) ?_;refine AllReadyH.cons rfl (fun K hK=>?_) (AllReadyH.cons rfl (fun K hK=>?_) AllReadyH.nil)
     .go_simp;refine hK.o _ _ (KS.o _ _ _ _ DR (KS.o _ _ _ _ DR (KS.o _ _ _ _ DR (KS.o _ _ _ _ DR WO)))) (fun _=>?_);clear hK K;refine jh 14 fun K hK=>?_;go_simp;refine hK.o _ _ (KS.o _ _ _ _ acj (KS.o _ _ _ _ DR (KS.o _ _ _ _ DR (KS.o _ _ _ _ DR (KS.o _ _ _ _ DR WO))))) (fun _=>?_);clear hK K;refine wpAnyH_done (by kernel_rfl) ?_ _;refine(show ∃n',n'<gk/\_ from⟨rest.length,N9,?_⟩);exact⟨rest,_,_,d,r+1,_,_,_,_,_,_,_,_,_,_,_,_,_,_,_,_,_,_,_,_,_,_,_,_,_,_,_,_,_,_,_,_,_,_,_,_,_,_,_,_,_,_,_,_,_,_,_,_,_,_,_,_,_,rfl,rfl,by rw[put_comm w8 TQ];exact HI8.o⟩
     .go_simp;refine hK.o _ _ (KS.o _ _ _ _ acj WO) (fun _=>?_);clear hK K;refine jh 11 fun K hK=>?_;go_simp;refine hK.o _ _ (KS.o _ _ _ _ DR (KS.o _ _ _ _ DR (KS.o _ _ _ _ DR (KS.o _ _ _ _ DR (KS.o _ _ _ _ acj WO))))) (fun _=>?_);clear hK K;refine wpAnyH_done (by kernel_rfl) ?_ _;refine(show ∃n',n'<gk/\_ from⟨rest.length,N9,?_⟩);exact⟨rest,_,_,d,r+1,_,_,_,_,_,_,_,_,_,_,_,_,_,_,_,_,_,_,_,_,_,_,_,_,_,_,_,_,_,_,_,_,_,_,_,_,_,_,_,_,_,_,_,_,_,_,_,_,_,_,_,_,_,rfl,rfl,HI8.o⟩
   .have hb:=Hb.o;simp only[Bool.and_eq_true,beq_iff_eq]at hb;have HS:Hid (ay t (closing f.tok)=true):=by
     show _=_;unfold ay;have e:t.word=closing f.tok:=by have:=bytes_beq t.word (closing f.tok);rw[hb.2]at this;simpa using this.symm
     simp[hb.1,e]
    have HN:Hid (closing f.tok≠aA):=by
     intro e;have e2:t.word=aA:=by have:=bytes_beq t.word (closing f.tok);rw[hb.2]at this;rw[<-e];simpa using this.symm
     have:=ach.o.sign hb.1;rw[e2]at this;exact absurd this (by decide)
    clear hb Hb;rcases List.eq_nil_or_concat L with e|⟨L2,f2,e⟩
    .exfalso
     have:=HI2.o.opens;rw[e,dV]at this;exact HN.o this
    rw[List.concat_eq_append]at e;subst e;have hl2:(L2++[f2]).length=L2.length+1:=by simp
    rw[hl2]at hLf HI2 UJ q1 q2⊢;have hf2:f2.ins.length<=600:=by have:=HI2.o.tot;rw[jd,jd]at this;simp at this;omega
    have hf1:f.ins.length<=600:=by have:=HI2.o.tot;rw[jd,jd]at this;simp at this;omega
    clear hl2;go_wp2_with fail;refine(Dj w.heap.size L2 f2 f _ w6 UJ.o oo hf2 hf1 hw6).mono ?_;rintro e w7 ⟨v7,f7,rfl,adY,ht7,hi7,hb7⟩;have HI7:Hid (Iw w all c cap n rest (r+1) v7 (L2++[f7]) d w7):=HI2.o.close adY ht7 hi7 (.inr ⟨t,rfl,HS.o⟩) (by rw[hb7.block c Ye];exact AX.o) (HT6.o.upon hb7);clear adY ht7 hi7 hb7 HI2 UJ;go_wp2_with fail;exact⟨rest.length,N9,rest,_,_,d,r+1,_,_,_,_,_,_,_,_,_,_,_,_,_,_,_,_,_,_,_,_,_,_,_,_,_,_,_,_,_,_,_,_,_,_,_,_,_,_,_,_,_,_,_,_,_,_,_,_,_,_,_,_,_,rfl,rfl,HI7.o⟩
end Go.Proofs.YtlliliddljkbfaaGreatDoor
