import Derived.Test.YtlliliddljkbfaaGreatC12
import Derived.Lib.SmallJoins
set_option maxHeartbeats 64000000
set_option maxRecDepth 100000
namespace Go.Proofs.YtlliliddljkbfaaGreat
open Go.Proofs.Tryz (prog)
open Go.RowKit Sp
section
theorem anZ{s:BY}:∀(l:List Pc) (X:List UInt8) (i f:Nat),At s i (flat l++X)->Sp.Good l X->(flat l).length+X.length<=f->∃g,X.length<=g/\tokF s f (com s i)=dA l++tokF s g (com s (i+(flat l).length))
 |[],X,i,f,_,_,hf=>⟨f,by simpa[flat]using hf,by simp[flat,dA]⟩
 |p::l,X,i,f,h,hg,hf=>by
  have h0:At s i (p.bytes++(flat l++X)):=by have:=h;rw[show flat (p::l)=p.bytes++flat l from rfl,List.append_assoc]at this;exact this
  obtain⟨g1,g2,g3⟩:=hg;have hpos:=Pc.pos g1;have hlen:(flat (p::l)).length=p.bytes.length+(flat l).length:=List.length_append;rw[hlen]at hf;by_cases hp:p=.com
  .subst hp;have h1:At s (i+4) (flat l++X):=h0.app;have e:com s (i+4)=i+4:=kW fun hh=>g2 ⟨by rw[<-h1.hd];exact hh.1,by rw[<-YZ h1 (by rw[hh.1];decide)];exact hh.2⟩;obtain⟨g,hg,ih⟩:=anZ l X (i+4) f h1 g3 oo;rw[e]at ih;refine⟨g,hg,?_⟩;rw[ads h0 g2,ih,hlen,<-Nat.add_assoc];rfl
  .obtain⟨t,ht,hsc,hcm⟩:=Xd g1 g2 hp h0;obtain⟨f,rfl⟩:∃g,f=g+1:=⟨f-1,oo⟩;have hsz:=h0.size;obtain⟨g,hg,ih⟩:=anZ l X (i+p.bytes.length) f h0.app g3 oo;refine⟨g,hg,?_⟩;rw[hcm,show tokF s (f+1) i=(if s.size<=i then [] else(token s i).1::tokF s f (com s (token s i).2)) from rfl,if_neg (by rw[List.length_append]at hsz;omega),hsc];show t::tokF s f (com s (i+p.bytes.length))=_;rw[ih,hlen,<-Nat.add_assoc];unfold dA;rw[List.filterMap_cons,ht];rfl
theorem aow{o:BY}{ps:List Pc}{ns:List Nd}{rs:List Rule}(h1:o.data.toList=flat ps)(h2:∀X,Sp.Good ps X)(h3:sJ (dA ps) ns)(h5:∀rest,rules true (ns++rest)=rs++rules true rest)(hb:∀c∈o.data.toList,32<=c.toNat)(y:BY):bH (o++y)=ns++bH y/\KR (o++y)=rs++KR y:=by
 have hk:bH (o++y)=ns++bH y:=by
  have hl:(flat ps).length=o.size:=by rw[<-h1];rfl
  have ha:At (o++Sp.clean y) 0 (flat ps++(Sp.clean y).data.toList):=by have:=At.zero (o++Sp.clean y);rw[kV,h1]at this;exact this
  have hy:(Sp.clean y).data.toList.length=(Sp.clean y).size:=rfl;obtain⟨g,hg,e⟩:=anZ ps _ 0 (o++Sp.clean y).size ha (h2 _) (by rw[hl,ByteArray.size_append,hy];omega);have ht:toks (o++Sp.clean y)=dA ps++toks (Sp.clean y):=by
   rw[show toks (o++Sp.clean y)=tokF (o++Sp.clean y) (o++Sp.clean y).size (com (o++Sp.clean y) 0) from rfl,e,Nat.zero_add,hl];congr 1
   exact aoF (W9.of o (Sp.clean y)) (by rw[hy]at hg;exact hg)
  unfold bH;rw[aon hb,ht];unfold nodes;rw[h3 aA _ (fun h=>absurd rfl h)]
 refine⟨hk,?_⟩;unfold KR;rw[hk,h5]
theorem aoG{D:Nat}{C:Rule->Prop}{o:BY}(h:oq D C o)(hb:∀c∈o.data.toList,32<=c.toNat):∃ns rs,depth ns<=D/\∀y,bH (o++y)=ns++bH y/\KR (o++y)=rs++KR y:=by obtain⟨ps,ns,h1,h2,h3,h4,_,rs,h5,h6⟩:=h;exact⟨ns,rs,h4,aow h1 h2 h3 h5 hb⟩
theorem aoo{o:BY}{ns:List Nd}{rs:List Rule}(h:∀y,bH (o++y)=ns++bH y/\KR (o++y)=rs++KR y):bH o=ns/\KR o=rs:=by
 have e1:bH aA=[]:=by decide
 have e2:KR aA=[]:=by unfold KR;rw[e1];rfl
 have:=h aA;rw[show o++aA=o from ByteArray.append_empty,e1,e2,List.append_nil,List.append_nil]at this;exact this
theorem anT[bV](s:BY)(p:aF)(y:BY):bH ((dR s p).1++y)=bH (dR s p).1++bH y/\KR ((dR s p).1++y)=KR (dR s p).1++KR y/\depth (bH (dR s p).1)<=8:=by obtain⟨ns,rs,h1,h2⟩:=aoG (Zm s p) (abq s p);have:=aoo h2;rw[this.1,this.2];exact⟨(h2 y).1,(h2 y).2,h1⟩
section
variable [bV] (F:lI) (p:aI) (s1 s2:BY) (p1 p2:aF) (y:BY)
theorem an9:KR ((dR s1 p1).1++(dR s2 p2).1++y)=KR (dR s1 p1).1++(KR (dR s2 p2).1++KR y):=by rw[ByteArray.append_assoc,(anT s1 p1 _).2.1,(anT s2 p2 y).2.1]
theorem aoe:nY [(dR s1 p1).1++(dR s2 p2).1++y]=nY [(dR s1 p1).1,(dR s2 p2).1,y]:=by
 have h1:=(anT s1 p1 y).2.2;have h2:=(anT s2 p2 y).2.2;unfold nY;simp only[List.any_cons,List.any_nil,Bool.or_false];rw[ByteArray.append_assoc,(anT s1 p1 _).1,(anT s2 p2 y).1,kC,kC,decide_eq_true h1,decide_eq_true h2];simp only[Bool.not_true,Bool.false_or];congr 1
 rw[decide_eq_decide];omega
theorem aop(i:Nat):yT F p [(dR s1 p1).1++(dR s2 p2).1++y] i=yT F p [(dR s1 p1).1,(dR s2 p2).1,y] i:=by unfold yT wZ;simp only[List.map_cons,List.map_nil,List.foldl_cons,List.foldl_nil];rw[an9];unfold Gl;rw[List.foldl_append,List.foldl_append]
end
theorem aof[bV]{F:lI}{p:aI}{s1 s2:BY}{p1 p2:aF}{y:BY}{lp lp':Nat->BY->Bool}{e:Nat}{q:BY}
  (hl:∀e s,lp e s=true↔Sp.Way (yO (kJ (yT F p [(dR s1 p1).1++(dR s2 p2).1++y])) e) s s) (hl':∀e t,lp' e t=true↔Sp.Way (yO (kJ (yT F p [(dR s1 p1).1,(dR s2 p2).1,y])) e) t t)
  {a b:Ending} (ha:cmR F lp p [(dR s1 p1).1++(dR s2 p2).1++y] e q a) (hb:cmR F lp' p [(dR s1 p1).1,(dR s2 p2).1,y] e q b):a=b:=by
 have hw:yT F p [(dR s1 p1).1++(dR s2 p2).1++y]=yT F p [(dR s1 p1).1,(dR s2 p2).1,y]:=funext fun i=>aop F p s1 s2 p1 p2 y i;rw[hw]at hl;have hlp:lp=lp':=by
  funext e s
  rw[Bool.eq_iff_iff,hl,hl']
 subst hlp;unfold cmR at ha hb;rw[aoe,hw]at ha;split at ha
 .rename_i h;rw[if_pos h]at hb;exact ha.trans hb.symm
 .rename_i h;rw[if_neg h]at hb;obtain⟨t,h1,h2⟩:=ha;obtain⟨t',h3,h4⟩:=hb;rw[h1,h3,h2.uniq h4]
end
def D6(s:BY):BY:=s.extract 0 (min s.size 200)
theorem P5(s:BY):(D6 s).size<=200:=by unfold D6;rw[ByteArray.size_extract];omega
theorem an0(s:BY)(w:WD)(hs:s.size<=9223372036854775807):
  Calls prog 19 #[.string s,.int .i64 200] w fun e w'=>e=.returned (.string (D6 s))/\w'=w:=by
 have e:(min (s.size:Int) 200).toNat=min s.size 200:=oo;have HE:=hid e;clear e;go_in;go_wp2_with fail;go_ret;rw[HE.o];exact⟨rfl,rfl⟩
theorem aoq:∀(i:Fin 3) (j k:Fin 6) (x y:Bool),qp ⟨aA,prO.take (1+j.val),fnO.take k.val,atO.take i.val,x,y⟩=true:=by decide +kernel
theorem aox(a b c:Int):qp ⟨aA,(Bd a b c).props,(Bd a b c).aJ,(Bd a b c).ats,(Bd a b c).aU,(Bd a b c).texts⟩=true:=aoq ⟨bK a 3,jJ a oo⟩ ⟨bK b 6,jJ b oo⟩ ⟨bK c 6,jJ c oo⟩ _ _
theorem aoy[bV](t:Nat->Int)(s ah bh:BY)(la:Option Addr)(ln lc:Nat)(lf:Nat->XF)(a b c:Int)(B:Nat)(w:WD)(hs:s.size<=9223372036854775807)(hah:ah.size<=9223372036854775807)(hbh:bh.size<=9223372036854775807)(hR:XG B w la ln lf)(hB:B<=w.heap.size)
  (ha: -9223372036854775808<=a/\a<=9223372036854775807) (hb: -9223372036854775808<=b/\b<=9223372036854775807) (hc: -9223372036854775808<=c/\c<=9223372036854775807) (hI:jD w) (hl:Lit w) (ht:Gq t w) (hrd:∀f,vK f):
  Calls prog 9 #[.string s,.string ah,.string bh,.slice la ln lc,.int .i64 a,.int .i64 b,.int .i64 c] w fun e w'=>e=.returned (.bool true)/\Below w.heap.size w w':=by
 have HI:=hid hI;have HL:=hid hl;have HT:=hid ht;have HRA:=hid hR;have HRD:=hid hrd;clear hI hl ht hR hrd;go_in;go_wp2_with fail;refine(adW a b c w ha hb hc).mono ?_;rintro e w1 ⟨pv,fv,av,rfl,hP,hb1⟩;have akC:=agT a b c;have aoz:=aox a b c;have ami:=aa3 a b c;obtain⟨p,Hp⟩:=Nm (Bd a b c);rw[Hp.o]at hP akC aoz ami;rw[Hp.o];obtain⟨pa,pc,rfl⟩:=hP.props.form;obtain⟨fa,fc,rfl⟩:=hP.aJ.form;obtain⟨aa,ac,rfl⟩:=hP.ats.form;have P1:=hid hP;have B1:=hid hb1;have HPO:=hid akC;have aoL:=hid aoz;clear hP hb1 akC aoz;unfold dF;go_upto_region 2 with fail
 generalize hw2:World.alloc _ _=w2;obtain⟨q2,hb2⟩:=qy hw2;obtain⟨n,Hn⟩:=Nm w1.heap.size;rw[Hn.o]at q2;rw[Hn.o];have Q2:Hid (w2.heap[n]?=_):=q2;have B2:=hid (AC B1.o hb2);have P2:=hid (P1.o.below hb2 P1.o.lt);have hwn:w.heap.size<=n:=by have:=B1.o.size;have:=Hn.o;omega
 clear hw2 q2 hb2 B1 P1;go_wp2_with fail;refine pmb (agR w2 (HI.o.below B2.o nl) (HL.o.below B2.o)) fun w3 hb3=>?_;have QA:Hid (w3.heap[n]?=some (.cells #[.string p.root,.slice pa p.props.length pc,.slice fa p.aJ.length fc,.slice aa p.ats.length ac,.bool p.aU,.bool p.texts] 41 (0,0))):=AE hb3 Q2.o;have BA:=hid (AC B2.o hb3);have PA:=hid (P2.o.below hb3 P2.o.lt);clear hb3 Q2 B2 P2;obtain⟨o,Ho⟩:=Nm ((dR (D6 s) p).1);obtain⟨er,Her⟩:=Nm ((dR (D6 s) p).2)
 have HER:Hid (er=0\/(er=2/\o=aA)):=by have:=aa4 (s:=D6 s) HPO.o (by have:=P5 s;omega);rw[Ho.o,Her.o]at this;exact this
 have hos:o.size<=1200000000:=by have:=Xx (s:=D6 s) ami;rw[Ho.o]at this;exact this
 obtain⟨x,Hx⟩:=Nm ((dR (D6 ah) ⟨aA,p.props,p.aJ,p.ats,p.aU,p.texts⟩).1);obtain⟨ex,Hex⟩:=Nm ((dR (D6 ah) ⟨aA,p.props,p.aJ,p.ats,p.aU,p.texts⟩).2);have HEX:Hid (ex=0\/(ex=2/\x=aA)):=by have:=aa4 (s:=D6 ah) aoL.o (by have:=P5 ah;omega);rw[Hx.o,Hex.o]at this;exact this
 have hxs:x.size<=1200000000:=by have:=Xx (s:=D6 ah) (p:=⟨aA,p.props,p.aJ,p.ats,p.aU,p.texts⟩) (show 0<=12 by omega);rw[Hx.o]at this;exact this
 go_wp2_with fail;refine wp_region_any Ao ?_;change wpAny _ _ _ _ _ _ _ (World.drew _);obtain⟨wz,hwz⟩:∃x,World.drew w3=x:=⟨_,rfl⟩;have hz:Below w3.heap.size w3 wz:=by rw[<-hwz];exact Ax.drew
 rw[hwz];have QZ:Hid (wz.heap[n]?=some (.cells #[.string p.root,.slice pa p.props.length pc,.slice fa p.aJ.length fc,.slice aa p.ats.length ac,.bool p.aU,.bool p.texts] 41 (0,0))):=AE hz QA.o;have BZ:=hid (AC BA.o hz);have PZ:=hid (PA.o.below hz PA.o.lt);clear hz hwz QA BA PA;refine wpAny_of_held (S:=fun wx=>wx.heap[n]?=some (.cells #[.string p.root,.slice pa p.props.length pc,.slice fa p.aJ.length fc,.slice aa p.ats.length ac,.bool p.aU,.bool p.texts] 41 (0,0))) _ _ _ _ ?_
 refine dH 0 rfl QZ.o (by intro w hSw;(have z0:=(cells_at hSw 0).trans rfl;have z1:=(cells_at hSw 1).trans rfl;have z2:=(cells_at hSw 2).trans rfl;have z3:=(cells_at hSw 3).trans rfl;have z4:=(cells_at hSw 4).trans rfl;have z5:=(cells_at hSw 5).trans rfl);exact gs) ?_;refine dH 2 rfl QZ.o (by intro w hSw;(have z0:=(cells_at hSw 0).trans rfl;have z1:=(cells_at hSw 1).trans rfl;have z2:=(cells_at hSw 2).trans rfl;have z3:=(cells_at hSw 3).trans rfl;have z4:=(cells_at hSw 4).trans rfl;have z5:=(cells_at hSw 5).trans rfl);exact gs) ?_;refine iW 1 fun K hK=>?_;go_simp;refine pmb (an0 s wz hs) fun wq hwq=>?_;rw[hwq];clear hwq;refine hK.o _ _ QZ.o (fun _=>?_);clear hK K;refine iW 3 fun K hK=>?_;go_simp
 refine(YT w1.heap.size (D6 s) p _ _ _ wz PZ.o (HI.o.below BZ.o nl) Xv (HL.o.below BZ.o) oo (by have:=P5 s;omega)).mono ?_;rw[Ho.o,Her.o];rintro e w5 ⟨rfl,hb5⟩;have QA:Hid (w5.heap[n]?=some (.cells #[.string p.root,.slice pa p.props.length pc,.slice fa p.aJ.length fc,.slice aa p.ats.length ac,.bool p.aU,.bool p.texts] 41 (0,0))):=AE hb5 QZ.o;have BA:=hid (AC BZ.o hb5);have PA:=hid (PZ.o.below hb5 PZ.o.lt);clear hb5 QZ BZ PZ;refine hK.o _ _ QA.o (fun _=>?_);clear hK K;refine iW 4 fun K hK=>?_;go_simp;refine hK.o _ _ (QA.o) (fun _=>?_);clear hK K;refine dH 5 rfl QA.o (fun _ _=>gs) ?_
 refine dH 6 rfl QA.o (fun _ _=>gs) ?_;refine iW 7 fun K hK=>?_;go_simp;refine hK.o _ _ (QA.o) (fun _=>?_);clear hK K;refine iW 8 fun K hK=>?_;go_simp;refine hK.o _ _ (QA.o) (fun _=>?_);clear hK K;refine wpAnyH_done Ao ?_ _;have z0:=(cells_at QA.o 0).trans rfl;have zf:w5.frozen? ⟨n,0,none⟩=false:=by unfold World.frozen?;rw[QA.o];simp
 go_upto_region 5 with fail
 clear z0 zf;generalize hws:World.setCell _ _ _=ws;have QS:Hid (ws.heap[n]?=some (.cells #[.string ⟨#[]⟩,.slice pa p.props.length pc,.slice fa p.aJ.length fc,.slice aa p.ats.length ac,.bool p.aU,.bool p.texts] 41 (0,0))):=by show ws.heap[n]?=_;rw[<-hws];simp only[World.setCell,Array.getElem?_modify,QA.o];rfl
 have hbs:Below n w5 ws:=by rw[<-hws];exact Ax.setCell (p:=⟨n,0,none⟩) nl _
 have BS:=hid (BA.o.trans (hbs.mono hwn));have PS:Hid (jK w1.heap.size ws ⟨aA,p.props,p.aJ,p.ats,p.aU,p.texts⟩ (.slice pa p.props.length pc) (.slice fa p.aJ.length fc) (.slice aa p.ats.length ac)):=by have:=PA.o.below hbs (by have:=Hn.o;omega);exact⟨this.props,this.aJ,this.ats,this.lt⟩
 clear hws hbs QA BA PA;have QA:=QS;have BA:=BS;have PA:=PS;clear QS BS PS;go_wp2_with fail;refine wp_region_any Ao ?_;change wpAny _ _ _ _ _ _ _ (World.drew _);obtain⟨wy,hwy⟩:∃x,World.drew ws=x:=⟨_,rfl⟩;have hz:Below ws.heap.size ws wy:=by rw[<-hwy];exact Ax.drew
 rw[hwy];have QZ:Hid (wy.heap[n]?=some (.cells #[.string ⟨#[]⟩,.slice pa p.props.length pc,.slice fa p.aJ.length fc,.slice aa p.ats.length ac,.bool p.aU,.bool p.texts] 41 (0,0))):=AE hz QA.o;have BZ:=hid (AC BA.o hz);have PZ:=hid (PA.o.below hz PA.o.lt);clear hz hwy QA BA PA;refine wpAny_of_held (S:=fun wx=>wx.heap[n]?=some (.cells #[.string ⟨#[]⟩,.slice pa p.props.length pc,.slice fa p.aJ.length fc,.slice aa p.ats.length ac,.bool p.aU,.bool p.texts] 41 (0,0))) _ _ _ _ ?_
 refine dH 0 rfl QZ.o (by intro w hSw;(have z0:=(cells_at hSw 0).trans rfl;have z1:=(cells_at hSw 1).trans rfl;have z2:=(cells_at hSw 2).trans rfl;have z3:=(cells_at hSw 3).trans rfl;have z4:=(cells_at hSw 4).trans rfl;have z5:=(cells_at hSw 5).trans rfl);exact gs) ?_;refine dH 2 rfl QZ.o (by intro w hSw;(have z0:=(cells_at hSw 0).trans rfl;have z1:=(cells_at hSw 1).trans rfl;have z2:=(cells_at hSw 2).trans rfl;have z3:=(cells_at hSw 3).trans rfl;have z4:=(cells_at hSw 4).trans rfl;have z5:=(cells_at hSw 5).trans rfl);exact gs) ?_;refine iW 1 fun K hK=>?_;go_simp;refine pmb (an0 ah wy hah) fun wq hwq=>?_;rw[hwq];clear hwq;refine hK.o _ _ QZ.o (fun _=>?_);clear hK K;refine iW 3 fun K hK=>?_;go_simp
 refine(YT w1.heap.size (D6 ah) ⟨aA,p.props,p.aJ,p.ats,p.aU,p.texts⟩ _ _ _ wy PZ.o (HI.o.below BZ.o nl) Xv (HL.o.below BZ.o) (show 0<=4194304 by omega) (by have:=P5 ah;omega)).mono ?_;rw[Hx.o,Hex.o];rintro e w6 ⟨rfl,hb5⟩;have QA:Hid (w6.heap[n]?=some (.cells #[.string ⟨#[]⟩,.slice pa p.props.length pc,.slice fa p.aJ.length fc,.slice aa p.ats.length ac,.bool p.aU,.bool p.texts] 41 (0,0))):=AE hb5 QZ.o;have BA:=hid (AC BZ.o hb5);have PA:=hid (PZ.o.below hb5 PZ.o.lt);clear hb5 QZ BZ PZ;refine hK.o _ _ QA.o (fun _=>?_);clear hK K;refine iW 4 fun K hK=>?_;go_simp
 refine hK.o _ _ (QA.o) (fun _=>?_);clear hK K;refine dH 5 rfl QA.o (fun _ _=>gs) ?_;refine dH 6 rfl QA.o (fun _ _=>gs) ?_;refine iW 7 fun K hK=>?_;go_simp;refine hK.o _ _ (QA.o) (fun _=>?_);clear hK K;refine iW 8 fun K hK=>?_;go_simp;refine hK.o _ _ (QA.o) (fun _=>?_);clear hK K;refine wpAnyH_done Ao ?_ _;clear QA PA;go_wp2_with fail;refine pmb (an0 bh w6 hbh) fun wq hwq=>?_;rw[hwq];clear hwq;have hys:=P5 bh;obtain⟨y,Hy⟩:=Nm (D6 bh);rw[Hy.o]at hys⊢;rcases HER.o with h0|⟨h0,h1⟩
 .subst h0;rcases HEX.o with h0|⟨h0,h1⟩
  .subst h0;by_cases h6:x.size+o.size+y.size<=600
   .have h6':(x.size:Int)+(o.size:Int)+(y.size:Int)<=600:=oo;go_wp2_with fail;refine(ajZ ln lf la lc B w6 (HRA.o.below BA.o hB) (by have:=BA.o.size;omega)).mono ?_;rintro e w7 ⟨dv,d,rfl,hD,hpg,hb7⟩;obtain⟨da,dc,rfl⟩:=hD.form;have B7:=hid (AC BA.o hb7);have D7:Hid (SG wO 5 (fun b=>b<w7.heap.size) w7 (.slice da d.length dc) d):=hD.keep wO.fair (fun g hg=>hg.2) (fun _ _=>rfl);have HPG:=hid hpg;have hs7:=B7.o.size;clear hD hpg hb7 BA;go_wp2_with fail;refine(ah7 w7).mono ?_;rintro e w9 ⟨qv,rfl,hA,hb9⟩;obtain⟨qa,qc,rfl⟩:=hA.form;rw[show Yg.length=6 from rfl]at hA⊢;have A9:Hid (SG eX 1 (fun b=>b<w9.heap.size) w9 (.slice qa 6 qc) Yg):=hA.keep eX.fair (fun g hg=>hg.2) (fun _ _=>rfl);have D9:=hid ((D7.o.below wO.fair hb9 nl).mono wO.fair hb9.size)
    have B9:=hid (B7.o.trans (hb9.mono hs7));have hdl:=D9.o.len;have hs9:=B9.o.size;clear hA hb9 D7 B7;obtain⟨lp,hlp⟩:=UY (yT (EZ t) d [x++o++y]);obtain⟨lq,hlq⟩:=UY (yT (EZ t) d [x,o,y]);have HLP:=hid hlp;have HLQ:=hid hlq;clear hlp hlq;go_wp2_with fail;go_loopg[24] d.length (fun gg v24 wr=>∃i:Nat,v24=.int .i64 (i:Int)/\i+gg=d.length/\Aside (Below w9.heap.size w9 wr));case atStart=>exact⟨0,rfl,oo,Ax⟩
    case round=>
     obtain⟨i,rfl,hi,hA⟩:=hrel;have HC:=hid hA.o;clear hA;by_cases hlt:i<d.length
     .have h1:(i:Int)<(d.length:Int):=oo;obtain⟨go,hgo⟩:∃q,q=gk:=⟨_,rfl⟩;go_wp2_with fail;go_loopg[25] 6 (fun gg v25 wi=>∃m:Nat,v25=.int .i64 (m:Int)/\m+gg=6/\Aside (Below w9.heap.size w9 wi));case atStart=>exact⟨0,rfl,oo,HC.o⟩
      case round=>
       obtain⟨m,rfl,hm,hA⟩:=hrel;have HM:=hid hA.o;clear hA;by_cases hm6:m<6
       .have h2:(m:Int)<6:=oo;obtain⟨g,o',rfl,hL,hcap⟩:=(A9.o.below eX.fair HM.o nl).here Al;obtain⟨_,c0,_⟩:=hL.str (i:=m) hm6;have aiI:=ask_size Yg[m] (List.getElem_mem hm6);generalize Yg[m]=qn at *;clear hL;have HA1:Hid (Below wr.heap.size wr (wr.alloc (.cells #[.string (x++o++y)] 9))):=Ax.alloc nl _;have c1:=fU HA1.o c0;go_wp2_with fail;generalize hwa:World.alloc _ _=wa;obtain⟨qa0,hba⟩:=qy hwa;have XA:=hid (AC HM.o hba);have SA:Hid (SG eX 1 (fun b=>b<wa.heap.size) wa (.slice (some ⟨wr.heap.size,0,none⟩) 1 1) [x++o++y]):=Ph (l:=[x++o++y]) rfl (Ay qa0) nl Ab (fun i hi=>by
         obtain rfl:i=0:=by simp at hi;omega
         exact(cells_at qa0 0).trans rfl) (fun s hs=>by rw[List.mem_singleton.1 hs,ByteArray.size_append,ByteArray.size_append];omega)
        have c2:=fU hba c0;clear hwa qa0 hba c1 HA1;refine(KJ (EZ t) lp wa.heap.size d (.slice da d.length dc) [x++o++y] _ i qn wa ((D9.o.below wO.fair XA.o nl).mono wO.fair XA.o.size) SA.o nl (HL.o.below (B9.o.trans (XA.o.mono hs9))) HPG.o hlt Ab aiI (fun s hs=>by rw[List.mem_singleton.1 hs,ByteArray.size_append,ByteArray.size_append];omega) (ZM t wa (HL.o.below (B9.o.trans (XA.o.mono hs9))) (HT.o.below (B9.o.trans (XA.o.mono hs9)))) HLP.o HRD.o).mono ?_;rintro e w12 ⟨hcm,ah9⟩;obtain⟨tx,ex,rfl,hex⟩:=Vd hcm;have HX:=hid hcm;have XJ:=hid (AC XA.o ah9);have c3:=fU ah9 c2;have HA2:Hid (Below w12.heap.size w12 (w12.alloc (.cells #[.string x,.string o,.string y] 9))):=Ax.alloc nl _;have c4:=fU HA2.o c3;clear hcm ah9 c0 c2 SA;go_wp2_with fail
        generalize hwb:World.alloc _ _=wb;obtain⟨qb0,hbb⟩:=qy hwb;have XB:=hid (AC XJ.o hbb);have SB_:Hid (SG eX 1 (fun b=>b<wb.heap.size) wb (.slice (some ⟨w12.heap.size,0,none⟩) 3 3) [x,o,y]):=Ph (l:=[x,o,y]) rfl (Ay qb0) nl Ab (fun i hi=>by
         rcases(show i=0\/i=1\/i=2 by simp at hi;omega)with rfl|rfl|rfl<;>exact(cells_at qb0 _).trans rfl) (fun s hs=>by simp only[List.mem_cons,List.not_mem_nil,or_false]at hs;rcases hs with rfl|rfl|rfl<;>omega)
        clear hwb qb0 hbb c3 c4 HA2;refine(KJ (EZ t) lq wb.heap.size d (.slice da d.length dc) [x,o,y] _ i qn wb ((D9.o.below wO.fair XB.o nl).mono wO.fair XB.o.size) SB_.o nl (HL.o.below (B9.o.trans (XB.o.mono hs9))) HPG.o hlt Ab aiI (fun s hs=>by simp only[List.mem_cons,List.not_mem_nil,or_false]at hs;rcases hs with rfl|rfl|rfl<;>omega) (ZM t wb (HL.o.below (B9.o.trans (XB.o.mono hs9))) (HT.o.below (B9.o.trans (XB.o.mono hs9)))) HLQ.o HRD.o).mono ?_
        rintro e w13 ⟨hcm,aak⟩;obtain⟨ty,ey,rfl,hey⟩:=Vd hcm;have HM3:=hid (AC XB.o aak);have hsame:Ending.returned (.tuple #[.string tx,.int .i64 ex])=Ending.returned (.tuple #[.string ty,.int .i64 ey]):=by have e1:=Ho.o;have e2:=Hx.o;have hl1:=HLP.o;have hl2:=HLQ.o;have hx1:=HX.o;rw[<-e1,<-e2]at hl1 hl2 hx1 hcm;exact aof hl1 hl2 hx1 hcm
        simp at hsame;obtain⟨rfl,rfl⟩:=hsame;clear hcm aak HX hey;rcases hex with rfl|rfl;all_goals
         go_wp2_with fail;go_roundg(gk-1);case measure=>omega
         case rel=>exact⟨m+1,by congr 1,oo,HM3.o⟩
       .have h2:(6:Int)<=(m:Int):=oo;go_wp2_with fail;go_roundg(go-1);case measure=>omega
        case rel=>exact⟨i+1,by congr 1,oo,HM.o⟩
     .have h1:(d.length:Int)<=(i:Int):=oo;go_wp2_with fail;go_ret;exact⟨rfl,B9.o.trans (HC.o.mono hs9)⟩
   .have h6':(600:Int)<(x.size:Int)+(o.size:Int)+(y.size:Int):=oo;go_wp2_with fail;go_ret;exact⟨rfl,BA.o⟩
  .clear h1;subst h0;go_wp2_with fail;go_ret;exact⟨rfl,BA.o⟩
 .clear h1;subst h0;go_wp2_with fail;go_ret;exact⟨rfl,BA.o⟩
end Go.Proofs.YtlliliddljkbfaaGreat
namespace Go.Proofs.YtlliliddljkbfaaGreat
open Go.Proofs.Tryz (prog)
open Go.RowKit Sp Go.ChangeShapes Go.WideShapes Go.ChangeAt
theorem abQ:prog.cellsOf 9=1:=by kernel_rfl
theorem Ob:prog.cellsOf 57=5:=by kernel_rfl
theorem KN{W:WD}{a:Addr}{v:Av}(h:W.cell? (a.add 0)=some v):∃g o,a=⟨g,o,none⟩:=by
 have e:a.add 0=a:=by unfold Addr.add;rw[if_pos rfl]
 rw[e]at h;obtain⟨g,o,sp⟩:=a;have hs:sp=none:=World.cell?_spot h;exact⟨g,o,by rw[hs]⟩
section
variable {H:Type} {enc:TypeId × Av->H} {W:WD}
theorem abR{fuel:Nat}{cs:List Av}{x:DataW H×List MemPlace}(h:DataW.trod enc prog W 0 (fun _=>true) true fuel 26 cs=some x):
  ∃a n cap f,cs=[.slice a n cap]/\Vb W.heap.size W a n f:=by
 rcases open_strings Tryz.underlying26 Tryz.underlying9 abQ h with⟨hcs,_⟩|⟨a,len,cap,ss,hcs,_,hl,hm,hz,hx,hcell,hsz⟩
 .exact⟨none,0,0,fun _=>aA,hcs,oo,fun i hi=>by omega⟩
 .simp only[if_true]at hz;refine⟨some a,len,cap,fun i=>ss.getD i ByteArray.empty,hcs,by unfold maxLen at hm;omega,fun i hi _=>?_⟩;obtain⟨g,o,rfl⟩:=KN (hcell 0 oo);have hc:=hcell i oo;rw[Addr.add_lit]at hc;refine⟨g,o,rfl,World.block_lt_of_cell? W _ hc,hc,?_⟩;have hi':i<ss.length:=oo;have:=hsz (ss.getD i ByteArray.empty) (by rw[List.getD_eq_getElem?_getD,List.getElem?_eq_getElem hi'];exact List.getElem_mem hi');unfold maxLen at this;omega
theorem akD{n:Int}(h:(Lit.int .i64 n).wf=true):Ql n:=by
 unfold Lit.wf at h;simp only[Bool.and_eq_true,decide_eq_true_eq]at h;have e1:IntKind.i64.min = -9223372036854775808:=by decide
 have e2:IntKind.i64.max=9223372036854775807:=by decide
 rw[e1,e2]at h;exact h
theorem afE:prog.cellsOf 3=1:=by kernel_rfl
theorem abS{n:Nat}{c:List Av}{y:DataW H×List MemPlace}(h:DataW.trod enc prog W 0 (fun _=>true) true n 57 c=some y):
  ∃r:XF,c=[.int .i64 r.parent,.int .i64 r.tag,.int .i64 r.id,.int .i64 r.cls,.int .i64 r.attr]/\Ql r.parent/\Ql r.tag/\Ql r.id/\Ql r.cls/\Ql r.attr:=by
 obtain⟨xs,m,_,_,hl,hxl,hf⟩:=DataW.trod_struct Tryz.underlying57 h;rw[Ob]at hl;match c,hl with
 |[w0,w1,w2,w3,w4],_=>
  have h5:xs.length=5:=hxl;have key:∀(i:Nat) (v:Av),DataW.trod enc prog W 0 (fun _=>true) true m 3 [v]=xs[i]?->i<5->∃k,v=.int .i64 k/\Ql k:=by intro i v ht hi;rw[List.getElem?_eq_getElem oo]at ht;obtain⟨k,hk,_,hw⟩:=DataW.trod_int Tryz.underlying3 ht;cases hk;exact⟨k,rfl,akD hw⟩
  have f0:DataW.trod enc prog W 0 (fun _=>true) true m 3 (([w0,w1,w2,w3,w4].drop 0).take (prog.cellsOf 3))=xs[0]?:=hf 0 _ rfl;have f1:DataW.trod enc prog W 0 (fun _=>true) true m 3 (([w0,w1,w2,w3,w4].drop 1).take (prog.cellsOf 3))=xs[1]?:=hf 1 _ rfl;have f2:DataW.trod enc prog W 0 (fun _=>true) true m 3 (([w0,w1,w2,w3,w4].drop 2).take (prog.cellsOf 3))=xs[2]?:=hf 2 _ rfl;have f3:DataW.trod enc prog W 0 (fun _=>true) true m 3 (([w0,w1,w2,w3,w4].drop 3).take (prog.cellsOf 3))=xs[3]?:=hf 3 _ rfl;have f4:DataW.trod enc prog W 0 (fun _=>true) true m 3 (([w0,w1,w2,w3,w4].drop 4).take (prog.cellsOf 3))=xs[4]?:=hf 4 _ rfl;rw[afE]at f0 f1 f2 f3 f4;obtain⟨k0,rfl,i0⟩:=key 0 w0 f0 oo;obtain⟨k1,rfl,i1⟩:=key 1 w1 f1 oo;obtain⟨k2,rfl,i2⟩:=key 2 w2 f2 oo;obtain⟨k3,rfl,i3⟩:=key 3 w3 f3 oo;obtain⟨k4,rfl,i4⟩:=key 4 w4 f4 oo
  exact⟨⟨k0,k1,k2,k3,k4⟩,rfl,i0,i1,i2,i3,i4⟩
theorem afF{fuel:Nat}{cs:List Av}{x:DataW H×List MemPlace}(h:DataW.trod enc prog W 0 (fun _=>true) true fuel 49 cs=some x):
  ∃a n cap f,cs=[.slice a n cap]/\XG W.heap.size W a n f:=by
 rcases DataW.trod_slice Tryz.underlying49 h with⟨hcs,_⟩|⟨a,len,cap,elems,rest,n,_,hcs,hx,hb,hl,hm,hlen,hel,_,_⟩
 .exact⟨none,0,0,fun _=>⟨0,0,0,0,0⟩,hcs,oo,fun i hi=>by omega⟩
 .rw[Ob]at hel;have key:∀i,i<len->∃r:XF,(∀j u,[Value.int .i64 r.parent,.int .i64 r.tag,.int .i64 r.id,.int .i64 r.cls,.int .i64 r.attr][j]?=some u->W.cell? ((a.add (i*5)).add j)=some u)/\Ql r.parent/\Ql r.tag/\Ql r.id/\Ql r.cls/\Ql r.attr:=by
   intro i hi;have h1:=hel i hi;rw[List.getElem?_eq_getElem oo]at h1;obtain⟨c,hc,ht⟩:=Option.bind_eq_some_iff.1 h1;obtain⟨r,rfl,hin⟩:=abS ht;obtain⟨_,_,hcell⟩:=World.cells?_some hc;exact⟨r,fun j u hu=>by rw[hcell j (by have:=(List.getElem?_eq_some_iff.1 hu).1;simpa using this)];exact hu,hin⟩
  refine⟨some a,len,cap,fun i=>if h:i<len then(key i h).choose else⟨0,0,0,0,0⟩,hcs,by unfold maxLen at hm;omega,fun i hi _=>?_⟩;obtain⟨hc,hin⟩:=(key i hi).choose_spec;obtain⟨r0,hr0,_⟩:=key 0 oo;have h00:=hr0 0 _ rfl;rw[Nat.zero_mul]at h00;have ea:(a.add 0).add 0=a.add 0:=by unfold Addr.add;rw[if_pos rfl]
  rw[ea]at h00;obtain⟨g,o,rfl⟩:=KN h00;simp only[dif_pos hi];have e:∀j,((⟨g,o,none⟩:Addr).add (i*5)).add j=⟨g,o+i*5+j,none⟩:=fun j=>by rw[Addr.add_lit,Addr.add_lit]
  have c0:=hc 0 _ rfl;have c1:=hc 1 _ rfl;have c2:=hc 2 _ rfl;have c3:=hc 3 _ rfl;have c4:=hc 4 _ rfl;rw[e]at c0 c1 c2 c3 c4;exact⟨g,o,rfl,World.block_lt_of_cell? W _ c0,⟨c0,c1,c2,c3,c4⟩,hin⟩
end
end Go.Proofs.YtlliliddljkbfaaGreat
