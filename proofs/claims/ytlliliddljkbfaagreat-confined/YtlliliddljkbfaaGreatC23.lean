import Derived.Test.YtlliliddljkbfaaGreatC22
set_option maxHeartbeats 64000000
set_option maxRecDepth 100000
namespace Go.Proofs.YtlliliddljkbfaaGreat
open Go.Proofs.Tryz (prog)
open Go.RowKit Sp
theorem ad7(s:Nat){q:Int}(h:0<=q):hasB s q=s.testBit q.toNat:=by unfold hasB;rw[decide_eq_true h];rfl
theorem JO(s k:Nat):hasB s (k:Int)=s.testBit k:=by rw[ad7 s oo];rfl
def mD(p:aI)(s:Nat):Nat->Nat
 |0=>0
 |k+1=>if (hasB s (parentOf p k)||hasB (mD p s k) (parentOf p k))=true then mD p s k ||| 2 ^ k else mD p s k
theorem ag3(p:aI)(s:Nat)(k:Nat):mD p s k<2 ^ k:=by
 induction k with
 |zero=>simp[mD]
 |succ k ih=>
  have h2:2 ^ k<2 ^ (k+1):=Nat.pow_lt_pow_right Al oo;unfold mD;split
  .exact Nat.or_lt_two_pow oo h2
  .omega
structure jZ(B:Nat)(w:WD)(p:aI)(a:Option Addr)(cap:Nat):Prop where
 sg:SG wO 5 (fun b=>b<B) w (.slice a p.length cap) p
 lt:B<=w.heap.size
 pg:iL p=true
theorem jZ.below{B:Nat}{w w':WD}{p:aI}{a:Option Addr}{cap:Nat}{g:Nat}(h:jZ B w p a cap)(hb:Below g w w')(hg:B<=g):jZ B w' p a cap:=⟨h.sg.below wO.fair hb hg,Nat.le_trans h.lt hb.size,h.pg⟩
theorem jZ.alloc{B:Nat}{w:WD}{p:aI}{a:Option Addr}{cap:Nat}(h:jZ B w p a cap)(o:Obj):jZ B (w.alloc o) p a cap:=h.below (Ax.alloc nl o) h.lt
theorem jZ.len{B:Nat}{w:WD}{p:aI}{a:Option Addr}{cap:Nat}(h:jZ B w p a cap):1<=p.length/\p.length<=30:=by have:=h.pg;unfold iL at this;simp only[Bool.and_eq_true,decide_eq_true_eq]at this;omega
theorem jZ.par{B:Nat}{w:WD}{p:aI}{a:Option Addr}{cap:Nat}(h:jZ B w p a cap):Par p:=Ij h.pg
theorem jZ.at{B:Nat}{w:WD}{p:aI}{a:Option Addr}{cap:Nat}(h:jZ B w p a cap):∃g o,a=some ⟨g,o,none⟩/\g<B/\p.length<=cap/\∀i,i<p.length->w.cell? ⟨g,o+i*5,none⟩=some (.int .i64 (parentOf p i)):=by obtain⟨g,o,rfl,hL,hc⟩:=h.sg.here (by have:=h.len;rintro rfl;simp at this);obtain⟨_,_,hX⟩:=hL.el (i:=0) (by have:=h.len;omega);refine⟨g,o,rfl,hX.s,hc,fun i hi=>?_⟩;obtain⟨cv,av,hX⟩:=hL.el (i:=i) hi;rw[ng hi];exact hX.c0
theorem jZ.lo{B:Nat}{w:WD}{p:aI}{a:Option Addr}{cap:Nat}(h:jZ B w p a cap){i:Nat}(hi:i<p.length): -1<=parentOf p i/\parentOf p i<i:=by
 have h1:=h.par.lt i hi;refine⟨?_,h1⟩;have h2:=h.pg;unfold iL at h2;simp only[Bool.and_eq_true]at h2;have h3:∀(p:aI) (i k:Nat),gI i p=true->∀h:k<p.length,-1<=p[k].parent:=by
  intro p;induction p with
  |nil=>intro i k _ h;simp at h
  |cons x r ih=>
   intro i k he hk;unfold gI at he;simp only[Bool.and_eq_true]at he;cases k with
   |zero=>
    have h5:=he.1;rw[TM]at h5;simp only[Bool.and_eq_true]at h5;have h6:=h5.1;unfold Wi at h6;split at h6
    .simp at h6;simp;omega
    .simp at h6;simp;omega
   |succ k=>simpa using ih (i+1) k he.2 (by simpa using hk)
 rw[ng hi];exact h3 p 0 i h2.2 hi
theorem iR(w:WD)(v1:Av)(T1:TypeId)(v2:Av)(T2:TypeId):bU ((w.alloc (.cells #[v1] T1)).alloc (.cells #[v2] T2)) w.heap.size v1 T1/\bU ((w.alloc (.cells #[v1] T1)).alloc (.cells #[v2] T2)) (w.heap.size+1) v2 T2/\Below w.heap.size w ((w.alloc (.cells #[v1] T1)).alloc (.cells #[v2] T2)):=by refine⟨(bU.new w v1 T1).alloc _,?_,(Ax.alloc nl _).alloc Ab _⟩;have:=bU.new (w.alloc (.cells #[v1] T1)) v2 T2;simpa using this
theorem EO(p:aI)(s k:Nat)(hk:k<=30):mD p s k<18446744073709551616:=by have:=ag3 p s k;have:=wB k hk;omega
theorem Zc(p:aI)(s k:Nat)(hk:k<30)(h:(hasB s (parentOf p k)||hasB (mD p s k) (parentOf p k))=true):bits .or .u64 (mD p s k:Int) (IntKind.u64.wrap (2 ^ k))=(mD p s (k+1):Int):=by
 have h1:=EO p s k oo;have h2:=wB k oo;rw[Px k oo,bits_or_u64_nat _ _ h1 oo];conv=>rhs;unfold mD
 rw[if_pos h]
theorem ag4(p:aI)(s k:Nat)(h:(hasB s (parentOf p k)||hasB (mD p s k) (parentOf p k))=false):mD p s (k+1)=mD p s k:=by
 conv=>lhs;unfold mD
 rw[if_neg (by rw[h];simp)]
theorem ag5(B:Nat)(p:aI)(a:Option Addr)(cap s:Nat)(w:WD)(h:jZ B w p a cap)(hs:s<18446744073709551616):
  Calls prog 199 #[.agg #[.slice a p.length cap],.int .u64 (s:Int)] w fun ex w'=>ex=.returned (.int .u64 (mD p s p.length:Int))/\Below w.heap.size w w':=by
 have B0:Hid (Below w.heap.size w (w.alloc (.cells #[.slice a p.length cap] 66))):=Ax.alloc nl _;have V0:Hid (bU (w.alloc (.cells #[.slice a p.length cap] 66)) w.heap.size (.slice a p.length cap) 66):=bU.new _ _ _;have hlen:=h.len;have wX:Hid (jZ B (w.alloc (.cells #[.slice a p.length cap] 66)) p a cap):=h.alloc _;clear h;go_in;go_wp2_with fail;generalize w.alloc (.cells #[.slice a p.length cap] 66)=w0 at *;obtain⟨pb,Hpb⟩:=Nm w.heap.size;rw[Hpb.o]at B0 V0;rw[Hpb.o];have c0:=V0.o.c;go_loopg[5,11] p.length (fun g v6 v wr=>∃k:Nat,k+g=p.length/\v=.int .i64 (k:Int)/\v6=.int .u64 (mD p s k:Int)/\wr=w0);case atStart=>exact⟨0,oo,rfl,rfl,rfl⟩
 case round=>
  obtain⟨go,hgo⟩:∃go,go=gk:=⟨_,rfl⟩;obtain⟨k,hk,rfl,rfl,rfl⟩:=hrel;by_cases hlt:k<p.length
  .have h1:(k:Int)<(p.length:Int):=oo;obtain⟨g,o,rfl,hgB,hcap,hcs⟩:=wX.o.at;have c1:=hcs k hlt;have hq:=wX.o.lo hlt;obtain⟨q,Hq⟩:=Nm (parentOf p k);rw[Hq.o]at c1 hq;clear hcs;have h30:(k:Int)<30:=oo;have hbl:=EO p s k oo;go_wp2_with fail;refine(EN s q _ hs oo).mono ?_;obtain⟨b1,Hb1⟩:=Nm (hasB s q);rw[Hb1.o];rintro e wq ⟨rfl,hwq⟩;rw[hwq];clear hwq;cases b1
   .go_wp2_with fail;refine(EN (mD p s k) q _ hbl oo).mono ?_;obtain⟨b2,Hb2⟩:=Nm (hasB (mD p s k) q);rw[Hb2.o];rintro e wq ⟨rfl,hwq⟩;rw[hwq];clear hwq;cases b2
    .have HV:Hid (mD p s (k+1)=mD p s k):=ag4 p s k (by rw[Hq.o,Hb1.o,Hb2.o];rfl);go_wp2_with fail;go_roundg(go-1);case measure=>omega
     case rel=>exact⟨k+1,oo,by congr 1,by rw[HV.o],rfl⟩
    .have HV:Hid (bits .or .u64 (mD p s k:Int) (IntKind.u64.wrap (2 ^ k))=(mD p s (k+1):Int)):=Zc p s k oo (by rw[Hq.o,Hb1.o,Hb2.o];rfl);go_wp2_with fail;go_roundg(go-1);case measure=>omega
     case rel=>exact⟨k+1,oo,by congr 1,by rw[HV.o],rfl⟩
   .have HV:Hid (bits .or .u64 (mD p s k:Int) (IntKind.u64.wrap (2 ^ k))=(mD p s (k+1):Int)):=Zc p s k oo (by rw[Hq.o,Hb1.o];rfl);go_wp2_with fail;go_roundg(go-1);case measure=>omega
    case rel=>exact⟨k+1,oo,by congr 1,by rw[HV.o],rfl⟩
  .have h1:(p.length:Int)<=(k:Int):=oo;have HV:Hid (mD p s k=mD p s p.length):=by show _=_;rw[show k=p.length by omega]
   go_wp2_with fail;go_ret;exact⟨by rw[HV.o];rfl,by rw[Hpb.o];exact B0.o⟩
def Gh(x:Elem)(cv av:Av):Av:=.agg #[.int .i64 x.parent,.string x.tag,.string x.id,cv,av]
def TQ(p:aI)(t:Elem->Bool)(i:Nat):Bool:=match p[i]? with|none=>false|some x=>t x
theorem ad8{p:aI}{t:Elem->Bool}{i:Nat}(h:i<p.length):TQ p t i=t p[i]:=by unfold TQ;rw[List.getElem?_eq_getElem h]
theorem ad9(B:Nat)(p:aI)(a:Option Addr)(cap fb pb i:Nat)(g:Nat)(cs:Array Av)(t:Elem->Bool)(w:WD)(h:jZ B w p a cap)(hi:i<p.length)
  (hfb:bU w fb (.func (.func g) #[] cs) 170) (hpb:bU w pb (.slice a p.length cap) 66)
  (hg:∀(args:Array Av) (w:WD),(callFunc g args).run prog w=.ok (.enter g args) w)
  (hf:∀cv av w',Below w.heap.size w w'->SG eX 1 (fun b=>b<B) w' cv p[i].classes->SG qH 2 (fun b=>b<B) w' av p[i].attrs->Calls prog g (#[Gh p[i] cv av]++cs) w' fun ex w''=>ex=.returned (.bool (t p[i]))/\Below w'.heap.size w' w''):
  Calls prog 330 #[.int .i64 (i:Int),.pointer (some ⟨fb,0,none⟩),.pointer (some ⟨pb,0,none⟩)] w fun ex w'=>ex=.returned (.bool (TQ p t i))/\Below w.heap.size w w':=by
 rw[ad8 hi];have hlen:=h.len;obtain⟨g',o,rfl,hL,hcap⟩:=h.sg.here (by rintro rfl;simp at hi);obtain⟨cv,av,hX⟩:=hL.el (i:=i) hi;generalize p[i]=x at *;obtain⟨ca,cc,rfl⟩:=hX.cl.form;obtain⟨aa,ac,rfl⟩:=hX.at_.form;have hdr:Below w.heap.size w w.drew:=Ax.drew;have hc:=hf _ _ w.drew hdr (hX.cl.below eX.fair hdr h.lt) (hX.at_.below qH.fair hdr h.lt);have HC:Hid (Calls prog g (#[Gh x (.slice ca x.classes.length cc) (.slice aa x.attrs.length ac)]++cs) w.drew fun ex w'=>ex=.returned (.bool (t x))/\Below w.heap.size w.drew w'):=hc;obtain⟨c0,c1,c2,c3,c4⟩:_/\_/\_/\_/\_:=⟨hX.c0,hX.c1,hX.c2,hX.c3,hX.c4⟩;have d1:=hfb.c;have d2:=hpb.c;have h1:(i:Int)<(p.length:Int):=oo;have hlt:=h.lt;have hgB:g'<B:=hX.s;have hfl:=hfb.lt;have hpl:=hpb.lt;clear hc hf hX hL h hfb hpb;go_in;go_wp2_with fail
 refine wp_region_any Ao ?_;change wpAny _ _ _ _ _ _ _ (World.drew _);have sS:Hid ((fun wx:WD=>wx.cell? ⟨fb,0,none⟩=some (.func (.func g) #[] cs)/\wx.cell? ⟨pb,0,none⟩=some (.slice (some ⟨g',o,none⟩) p.length cap)/\wx.cell? ⟨g',o+i*5,none⟩=some (.int .i64 x.parent)/\wx.cell? ⟨g',o+i*5+1,none⟩=some (.string x.tag)/\wx.cell? ⟨g',o+i*5+2,none⟩=some (.string x.id)/\wx.cell? ⟨g',o+i*5+3,none⟩=some (.slice ca x.classes.length cc)/\wx.cell? ⟨g',o+i*5+4,none⟩=some (.slice aa x.attrs.length ac)) w.drew):=⟨d1,d2,c0,c1,c2,c3,c4⟩;clear d1 d2 c0 c1 c2 c3 c4
 refine wpAny_of_held (S:=(fun wx:WD=>wx.cell? ⟨fb,0,none⟩=some (.func (.func g) #[] cs)/\wx.cell? ⟨pb,0,none⟩=some (.slice (some ⟨g',o,none⟩) p.length cap)/\wx.cell? ⟨g',o+i*5,none⟩=some (.int .i64 x.parent)/\wx.cell? ⟨g',o+i*5+1,none⟩=some (.string x.tag)/\wx.cell? ⟨g',o+i*5+2,none⟩=some (.string x.id)/\wx.cell? ⟨g',o+i*5+3,none⟩=some (.slice ca x.classes.length cc)/\wx.cell? ⟨g',o+i*5+4,none⟩=some (.slice aa x.attrs.length ac))) _ _ _ _ ?_;refine dH 0 rfl sS.o (by intro w hSw;obtain⟨d1,d2,c0,c1,c2,c3,c4⟩:=hSw;exact gs) ?_;refine dH 1 rfl sS.o (by intro w hSw;obtain⟨d1,d2,c0,c1,c2,c3,c4⟩:=hSw;exact gs) ?_;refine dH 2 rfl sS.o (by intro w hSw;obtain⟨d1,d2,c0,c1,c2,c3,c4⟩:=hSw;exact gs) ?_
 refine dH 3 rfl sS.o (by intro w hSw;obtain⟨d1,d2,c0,c1,c2,c3,c4⟩:=hSw;exact gs) ?_;refine dH 4 rfl sS.o (by intro w hSw;obtain⟨d1,d2,c0,c1,c2,c3,c4⟩:=hSw;exact gs) ?_;refine dH 5 rfl sS.o (by intro w hSw;obtain⟨d1,d2,c0,c1,c2,c3,c4⟩:=hSw;exact gs) ?_;refine iW 6 fun K hK=>?_;go_simp;refine HC.o.mono ?_;rintro e wq ⟨rfl,hwq⟩;have BQ:Hid (Below w.heap.size w wq):=(Ax.drew).trans hwq
 have HSQ:Hid ((fun wx:WD=>wx.cell? ⟨fb,0,none⟩=some (.func (.func g) #[] cs)/\wx.cell? ⟨pb,0,none⟩=some (.slice (some ⟨g',o,none⟩) p.length cap)/\wx.cell? ⟨g',o+i*5,none⟩=some (.int .i64 x.parent)/\wx.cell? ⟨g',o+i*5+1,none⟩=some (.string x.tag)/\wx.cell? ⟨g',o+i*5+2,none⟩=some (.string x.id)/\wx.cell? ⟨g',o+i*5+3,none⟩=some (.slice ca x.classes.length cc)/\wx.cell? ⟨g',o+i*5+4,none⟩=some (.slice aa x.attrs.length ac)) wq):=by obtain⟨d1,d2,c0,c1,c2,c3,c4⟩:=sS.o;have hg':g'<w.heap.size:=oo;have eg:∀k,wq.cell? ⟨g',k,none⟩=w.drew.cell? ⟨g',k,none⟩:=fun k=>BQ.o.cell (p:=⟨g',k,none⟩) hg';refine⟨(BQ.o.cell (p:=⟨fb,0,none⟩) hfl).trans d1,(BQ.o.cell (p:=⟨pb,0,none⟩) hpl).trans d2,(eg _).trans c0,(eg _).trans c1,(eg _).trans c2,(eg _).trans c3,(eg _).trans c4⟩
 clear hwq;refine hK.o _ _ HSQ.o (fun _=>?_);clear hK K;refine dH 7 rfl HSQ.o (fun _ _=>gs) ?_;refine wpAnyH_done Ao ?_ _;go_wp2_with fail;go_ret;exact⟨rfl,BQ.o⟩
theorem GK(B:Nat)(p:aI)(a:Option Addr)(cap:Nat)(g:Nat)(cs:Array Av)(t:Elem->Bool)(w:WD)(h:jZ B w p a cap)
  (hg:∀(args:Array Av) (w:WD),(callFunc g args).run prog w=.ok (.enter g args) w)
  (hf:∀i,(hi:i<p.length)->∀cv av w',Below w.heap.size w w'->SG eX 1 (fun b=>b<B) w' cv p[i].classes->SG qH 2 (fun b=>b<B) w' av p[i].attrs->Calls prog g (#[Gh p[i] cv av]++cs) w' fun ex w''=>ex=.returned (.bool (t p[i]))/\Below w'.heap.size w' w''):
  Calls prog 328 #[.agg #[.slice a p.length cap],.func (.func g) #[] cs] w fun ex w'=>ex=.returned (.int .u64 (jq (TQ p t) p.length:Int))/\Below w.heap.size w w':=by
 have hmf:=nI;have hlen:=h.len;have hBw:=h.lt;obtain⟨V1,V2,hb⟩:=iR w (.slice a p.length cap) 66 (.func (.func g) #[] cs) 170;have P2:=hid (h.below hb hBw);have c1:=V1.c;have c2:=V2.c;have H1:=hid V1;have H2:=hid V2;have B2:=hid hb
 have HF:=hid hf;have HG:=hid hg;clear V1 V2 hb h hf hg;go_in;go_wp2_with fail;generalize(w.alloc (.cells #[.slice a p.length cap] 66)).alloc (.cells #[.func (.func g) #[] cs] 170)=w2 at *;refine(rZ p.length a cap _ _ (TQ p t) w2 hlen.2 (fun _ _=>rfl) ?_).mono ?_
 .intro i hi w' hb';refine ad9 B p a cap _ _ i g cs t w' (P2.o.below hb' P2.o.lt) hi (H2.o.below hb' H2.o.lt) (H1.o.below hb' H1.o.lt) HG.o ?_;intro cv av w'' aea hcv hav;have hb2:Below w.heap.size w w':=AC B2.o hb';exact HF.o i hi cv av w'' (hb2.trans (aea.mono hb2.size)) hcv hav
 .rintro e wq ⟨rfl,hwq⟩;have B3:=hid (AC B2.o hwq);clear hwq;go_wp2_with fail;go_ret;exact⟨rfl,B3.o⟩
def onS(p:aI)(k:Nat)(nm:BY):Nat:=
 if k=116 then(if nm=aA then 2 ^ p.length-1 else jq (TQ p (fun x=>decide (x.tag=nm))) p.length)
 else if k=35 then jq (TQ p (fun x=>decide (x.id=nm))) p.length
 else jq (TQ p (fun x=>x.classes.contains nm)) p.length
def okP(k:Nat):Prop:=k=116\/k=35\/k=46
theorem ajO(p:aI)(k:Nat)(nm:BY)(hp:p.length<=30):onS p k nm<18446744073709551616:=by
 unfold onS;have:=wB p.length hp;repeat' split
 all_goals first|omega|exact uJ _ _ hp
theorem ag6(B:Nat)(p:aI)(a:Option Addr)(cap:Nat)(w:WD)(h:jZ B w p a cap):
  Calls prog 331 #[.agg #[],.agg #[.slice a p.length cap]] w fun ex w'=>ex=.returned (.int .u64 ((2 ^ p.length-1:Nat):Int))/\Below w.heap.size w w':=by
 have hlen:=h.len;clear h;go_in;go_wp2_with fail;refine pmb (TP p.length a cap _ hlen.2) fun wq hwq=>?_;have B3:Hid (Below w.heap.size w wq):=by
  first
   |exact hwq
   |exact(Ax.alloc nl _).trans (hwq.mono Ab)
   |exact((Ax.alloc nl _).alloc Ab _).trans (hwq.mono An)
 clear hwq;go_wp2_with fail;go_ret;exact⟨rfl,B3.o⟩
theorem ajP(x:Elem)(ca aa:Option Addr)(cl cc al ac:Nat)(nm:BY)(tb:Nat)(w:WD)(hb:bU w tb (.string nm) 309):
  Calls prog 329 #[Gh x (.slice ca cl cc) (.slice aa al ac),.pointer (some ⟨tb,0,none⟩)] w fun ex w'=>ex=.returned (.bool (decide (x.tag=nm)))/\Below w.heap.size w w':=by
 unfold Gh;have X2:Hid (XE (w.alloc (.cells #[.int .i64 x.parent,.string x.tag,.string x.id,.slice ca cl cc,.slice aa al ac] 35)) w.heap.size x (.slice ca cl cc) (.slice aa al ac)):=heap_alloc_new w _;have B2:Hid (Below w.heap.size w (w.alloc (.cells #[.int .i64 x.parent,.string x.tag,.string x.id,.slice ca cl cc,.slice aa al ac] 35))):=Ax.alloc nl _;have c0:=(hb.alloc (.cells #[.int .i64 x.parent,.string x.tag,.string x.id,.slice ca cl cc,.slice aa al ac] 35)).c;obtain⟨d0,d1,d2,d3,d4⟩:=X2.o.cs;have HV:Hid ((x.tag.toList==nm.toList)=decide (x.tag=nm)):=bytes_beq _ _;go_in;go_wp2_with fail;go_ret;exact⟨aC HV.o,B2.o⟩
theorem alM(x:Elem)(ca aa:Option Addr)(cl cc al ac:Nat)(nm:BY)(tb:Nat)(w:WD)(hb:bU w tb (.string nm) 332):
  Calls prog 337 #[Gh x (.slice ca cl cc) (.slice aa al ac),.pointer (some ⟨tb,0,none⟩)] w fun ex w'=>ex=.returned (.bool (decide (x.id=nm)))/\Below w.heap.size w w':=by
 unfold Gh;have X2:Hid (XE (w.alloc (.cells #[.int .i64 x.parent,.string x.tag,.string x.id,.slice ca cl cc,.slice aa al ac] 35)) w.heap.size x (.slice ca cl cc) (.slice aa al ac)):=heap_alloc_new w _;have B2:Hid (Below w.heap.size w (w.alloc (.cells #[.int .i64 x.parent,.string x.tag,.string x.id,.slice ca cl cc,.slice aa al ac] 35))):=Ax.alloc nl _;have c0:=(hb.alloc (.cells #[.int .i64 x.parent,.string x.tag,.string x.id,.slice ca cl cc,.slice aa al ac] 35)).c;obtain⟨d0,d1,d2,d3,d4⟩:=X2.o.cs;have HV:Hid ((x.id.toList==nm.toList)=decide (x.id=nm)):=bytes_beq _ _;go_in;go_wp2_with fail;go_ret;exact⟨aC HV.o,B2.o⟩
theorem aeb(B:Nat)(x:Elem)(cv:Av)(aa:Option Addr)(al ac:Nat)(nm:BY)(tb:Nat)(w:WD)(hb:bU w tb (.string nm) 333)(hcv:SG eX 1 (fun b=>b<B) w cv x.classes)(hB:B<=w.heap.size):
  Calls prog 341 #[Gh x cv (.slice aa al ac),.pointer (some ⟨tb,0,none⟩)] w fun ex w'=>ex=.returned (.bool (x.classes.contains nm))/\Below w.heap.size w w':=by
 obtain⟨ca,cc,rfl⟩:=hcv.form;unfold Gh;have X2:Hid (XE (w.alloc (.cells #[.int .i64 x.parent,.string x.tag,.string x.id,.slice ca x.classes.length cc,.slice aa al ac] 35)) w.heap.size x (.slice ca x.classes.length cc) (.slice aa al ac)):=heap_alloc_new w _;have B2:Hid (Below w.heap.size w (w.alloc (.cells #[.int .i64 x.parent,.string x.tag,.string x.id,.slice ca x.classes.length cc,.slice aa al ac] 35))):=Ax.alloc nl _;have c0:=(hb.alloc (.cells #[.int .i64 x.parent,.string x.tag,.string x.id,.slice ca x.classes.length cc,.slice aa al ac] 35)).c;obtain⟨d0,d1,d2,d3,d4⟩:=X2.o.cs;have HS:=hid (hcv.below eX.fair B2.o hB);clear hcv;go_in;go_wp2_with fail
 refine pmb (YL _ x.classes _ nm _ HS.o) fun wq hwq=>?_;rw[hwq];clear hwq;go_wp2_with fail;go_ret;exact⟨rfl,B2.o⟩
theorem ajQ(B:Nat)(p:aI)(a:Option Addr)(cap:Nat)(nm:BY)(w:WD)(h:jZ B w p a cap):
  Calls prog 325 #[.agg #[.string nm],.agg #[.slice a p.length cap]] w fun ex w'=>ex=.returned (.int .u64 (jq (TQ p (fun x=>decide (x.tag=nm))) p.length:Int))/\Below w.heap.size w w':=by
 have hmf:=nI;have hBw:=h.lt;obtain⟨V1,V2,hb⟩:=iR w (.string nm) 309 (.slice a p.length cap) 66;have P2:=hid (h.below hb hBw);have c1:=V1.c;have c2:=V2.c;have H1:=hid V1;have B2:=hid hb;clear V1 V2 hb h;go_in;go_wp2_with fail;generalize(w.alloc (.cells #[.string nm] 309)).alloc (.cells #[.slice a p.length cap] 66)=w2 at *;refine(GK B p a cap _ _ (fun x=>decide (x.tag=nm)) w2 P2.o (fun _ _=>rfl) ?_).mono ?_
 .intro i hi cv av w' hb' hcv hav;obtain⟨ca,cc,rfl⟩:=hcv.form;obtain⟨aa,ac,rfl⟩:=hav.form;exact ajP _ _ _ _ _ _ _ nm _ w' (H1.o.below hb' H1.o.lt)
 .rintro e wq ⟨rfl,hwq⟩;have B3:=hid (AC B2.o hwq);clear hwq;go_wp2_with fail;go_ret;exact⟨rfl,B3.o⟩
theorem alN(B:Nat)(p:aI)(a:Option Addr)(cap:Nat)(nm:BY)(w:WD)(h:jZ B w p a cap):
  Calls prog 334 #[.agg #[.string nm],.agg #[.slice a p.length cap]] w fun ex w'=>ex=.returned (.int .u64 (jq (TQ p (fun x=>decide (x.id=nm))) p.length:Int))/\Below w.heap.size w w':=by
 have hmf:=nI;have hBw:=h.lt;obtain⟨V1,V2,hb⟩:=iR w (.string nm) 332 (.slice a p.length cap) 66;have P2:=hid (h.below hb hBw);have c1:=V1.c;have c2:=V2.c;have H1:=hid V1;have B2:=hid hb;clear V1 V2 hb h;go_in;go_wp2_with fail;generalize(w.alloc (.cells #[.string nm] 332)).alloc (.cells #[.slice a p.length cap] 66)=w2 at *;refine(GK B p a cap _ _ (fun x=>decide (x.id=nm)) w2 P2.o (fun _ _=>rfl) ?_).mono ?_
 .intro i hi cv av w' hb' hcv hav;obtain⟨ca,cc,rfl⟩:=hcv.form;obtain⟨aa,ac,rfl⟩:=hav.form;exact alM _ _ _ _ _ _ _ nm _ w' (H1.o.below hb' H1.o.lt)
 .rintro e wq ⟨rfl,hwq⟩;have B3:=hid (AC B2.o hwq);clear hwq;go_wp2_with fail;go_ret;exact⟨rfl,B3.o⟩
theorem aec(B:Nat)(p:aI)(a:Option Addr)(cap:Nat)(nm:BY)(w:WD)(h:jZ B w p a cap):
  Calls prog 338 #[.agg #[.string nm],.agg #[.slice a p.length cap]] w fun ex w'=>ex=.returned (.int .u64 (jq (TQ p (fun x=>x.classes.contains nm)) p.length:Int))/\Below w.heap.size w w':=by
 have hmf:=nI;have hBw:=h.lt;obtain⟨V1,V2,hb⟩:=iR w (.string nm) 333 (.slice a p.length cap) 66;have P2:=hid (h.below hb hBw);have c1:=V1.c;have c2:=V2.c;have H1:=hid V1;have B2:=hid hb;clear V1 V2 hb h;go_in;go_wp2_with fail;generalize(w.alloc (.cells #[.string nm] 333)).alloc (.cells #[.slice a p.length cap] 66)=w2 at *;refine(GK B p a cap _ _ (fun x=>x.classes.contains nm) w2 P2.o (fun _ _=>rfl) ?_).mono ?_
 .intro i hi cv av w' hb' hcv hav;obtain⟨aa,ac,rfl⟩:=hav.form;exact aeb B _ _ _ _ _ nm _ w' (H1.o.below hb' H1.o.lt) hcv (Nat.le_trans P2.o.lt hb'.size)
 .rintro e wq ⟨rfl,hwq⟩;have B3:=hid (AC B2.o hwq);clear hwq;go_wp2_with fail;go_ret;exact⟨rfl,B3.o⟩
theorem ag7 (W : WD) : (method 503 311 (.agg #[]) "rinse/selectors.on").run prog W = .ok (331, .agg #[]) W := by kernel_rfl
theorem ajR (nm : BY) (W : WD) : (method 503 309 (.agg #[.string nm]) "rinse/selectors.on").run prog W = .ok (325, .agg #[.string nm]) W := by kernel_rfl
theorem alO (nm : BY) (W : WD) : (method 503 332 (.agg #[.string nm]) "rinse/selectors.on").run prog W = .ok (334, .agg #[.string nm]) W := by kernel_rfl
theorem aed (nm : BY) (W : WD) : (method 503 333 (.agg #[.string nm]) "rinse/selectors.on").run prog W = .ok (338, .agg #[.string nm]) W := by kernel_rfl
theorem ag8(B:Nat)(p:aI)(a:Option Addr)(cap:Nat)(k:Nat)(nm how v:BY)(lv:Av)(pl:Nat)(w:WD)(h:jZ B w p a cap)(hk:okP k):
  ∃ T u K rcv, fE k nm how v lv pl = .iface T u ∧ (∀ W : WD, (method 503 T u "rinse/selectors.on").run prog W = .ok (K, rcv) W) ∧ (∀ (args : Array Av) (W : WD), (callFunc K args).run prog W = .ok (.enter K args) W) ∧
   ∀w',Below w.heap.size w w'->Calls prog K #[rcv,.agg #[.slice a p.length cap]] w' fun e w''=>e=.returned (.int .u64 (onS p k nm:Int))/\Below w'.heap.size w' w'':=by
 unfold fE onS;rcases hk with rfl|rfl|rfl
 .rw[if_pos rfl,if_pos rfl];by_cases e:nm=aA
  .rw[if_pos e,if_pos e];exact⟨_,_,_,_,rfl,ag7,fun _ _=>rfl,fun w' hb=>ag6 B p a cap w' (h.below hb h.lt)⟩
  .rw[if_neg e,if_neg e];exact⟨_,_,_,_,rfl,ajR nm,fun _ _=>rfl,fun w' hb=>ajQ B p a cap nm w' (h.below hb h.lt)⟩
 .rw[if_neg (by decide),if_pos rfl,if_neg (by decide),if_pos rfl];exact⟨_,_,_,_,rfl,alO nm,fun _ _=>rfl,fun w' hb=>alN B p a cap nm w' (h.below hb h.lt)⟩
 .rw[if_neg (by decide),if_neg (by decide),if_pos rfl,if_neg (by decide),if_neg (by decide)];exact⟨_,_,_,_,rfl,aed nm,fun _ _=>rfl,fun w' hb=>aec B p a cap nm w' (h.below hb h.lt)⟩
theorem LG.stq{C:wV Simple}{S:Nat->Prop}{w:WD}{l:List Step}{g o i:Nat}(h:LG (fO C) 2 S w l g o)(hi:i<l.length):∃av,w.cell? ⟨g,o+i*2,none⟩=some (.int .i64 (sG l[i].1))/\w.cell? ⟨g,o+i*2+1,none⟩=some av/\SG C 1 S w av l[i].2/\S g:=by
 obtain⟨h0,cs,⟨av,rfl,hs⟩,hc⟩:=h.at l g o i hi;refine⟨av,?_,?_,hs,h0⟩
 .have:=hc 0 _ rfl;rwa[Nat.add_zero]at this
 .exact hc 1 _ rfl
theorem LG.prq{f:Nat}{S:Nat->Prop}{w:WD}{l:List Simple}{g o i:Nat}(h:LG (aQ f) 1 S w l g o)(hi:i<l.length):∃pv,w.cell? ⟨g,o+i,none⟩=some pv/\aQ f S w l[i] [pv]/\S g:=by
 obtain⟨h0,cs,hC,hc⟩:=h.at l g o i hi;have hl:=aQ.sized f _ _ _ _ hC;obtain⟨pv,rfl⟩:∃pv,cs=[pv]:=by
  match cs,hl with
  |[pv],_=>exact⟨pv,rfl⟩
 refine⟨pv,?_,hC,h0⟩;have:=hc 0 _ rfl;rw[Nat.mul_one,Nat.add_zero]at this;exact this
def Vj(w:WD)(b:Nat)(x0 x1:Av):Prop:=w.heap[b]?=some (.cells #[x0,x1] 219 (0,0))
theorem Vj.cs{w:WD}{b:Nat}{x0 x1:Av}(h:Vj w b x0 x1):w.cell? ⟨b,0,none⟩=some x0/\w.cell? ⟨b,1,none⟩=some x1:=by have h':w.heap[b]?=_:=h;refine⟨?_,?_⟩<;>(unfold World.cell?;rw[h'];rfl)
theorem Vj.lt{w:WD}{b:Nat}{x0 x1:Av}(h:Vj w b x0 x1):b<w.heap.size:=(Ay h)
theorem Vj.new(w:WD)(x0 x1:Av):Vj (w.alloc (.cells #[x0,x1] 219)) w.heap.size x0 x1:=heap_alloc_new w _
theorem Vj.below{w w':WD}{b:Nat}{x0 x1:Av}(h:Vj w b x0 x1)(hb:Below w.heap.size w w'):Vj w' b x0 x1:=by show _=_;rw[hb.block _ h.lt];exact h
def okS:Simple->Prop
 |.mk k _ _ _ _ _=>okP k
def okA(l:List Simple):Prop:=∀s∈l,okS s
def okC(l:List Step):Prop:=∀st∈l,(st.1=0\/st.1=32)/\okA st.2
theorem TR(s t:Nat)(h:s<18446744073709551616):s &&& t<18446744073709551616:=Nat.lt_of_le_of_lt Nat.and_le_left h
abbrev lU:=Nat×Nat×Nat
def Bg(a b:lU):lU:=(a.1+b.1,a.2.1+b.2.1,a.2.2+b.2.2)
def sumW(a:lU):Nat:=a.1+a.2.1+a.2.2
def cnC:List Step->Nat
 |[]=>0
 |(_,all)::r=>all.length+cnC r
theorem ag9(k:Nat)(nm:BY):sumW (pwt k nm)<=1:=by
 unfold pwt;repeat' split
 all_goals(unfold sumW;decide)
theorem sum_add(a b:lU):sumW (Bg a b)=sumW a+sumW b:=by unfold sumW Bg;simp only;omega
def W3n(w:WD)(b:Nat)(x:lU):Prop:=W3 w b (x.1:Int) (x.2.1:Int) (x.2.2:Int)
theorem W3.below{w w':WD}{b:Nat}{x y z:Int}{g:Nat}(h:W3 w b x y z)(hb:Below g w w')(hg:b<g):W3 w' b x y z:=by unfold W3;rw[hb.block _ hg];exact h
theorem bQ(w:WD)(b k:Nat)(cs:Array Av)(T:TypeId)(fz:Nat×Nat)(u:Av)(h:w.heap[b]?=some (.cells cs T fz)):(w.setCell ⟨b,k,none⟩ u).heap[b]?=some (.cells (cs.setIfInBounds k u) T fz):=by unfold World.setCell;simp[Array.getElem?_modify,h]
theorem W3.set(w:WD)(b:Nat)(x y z x' y' z':Int)(h:W3 w b x y z):W3 (((w.setCell ⟨b,0,none⟩ (.int .i64 x')).setCell ⟨b,1,none⟩ (.int .i64 y')).setCell ⟨b,2,none⟩ (.int .i64 z')) b x' y' z':=by have h1:=bQ w b 0 _ _ _ (.int .i64 x') h;have h2:=bQ _ b 1 _ _ _ (.int .i64 y') h1;exact bQ _ b 2 _ _ _ (.int .i64 z') h2
theorem W3.other(w:WD)(b c:Nat)(x y z:Int)(x' y' z':Av)(h:W3 w b x y z)(hne:b≠c):W3 (((w.setCell ⟨c,0,none⟩ x').setCell ⟨c,1,none⟩ y').setCell ⟨c,2,none⟩ z') b x y z:=by unfold W3;rw[Below.heap_setCell _ _ _ _ hne,Below.heap_setCell _ _ _ _ hne,Below.heap_setCell _ _ _ _ hne];exact h
structure Bh(w:WD)(x:lU)(wr:WD):Prop where
 res:W3 wr w.heap.size 0 0 0
 all:W3n wr (w.heap.size+1) x
 below:Below w.heap.size w wr
 size:w.heap.size+2<=wr.heap.size
theorem Bh.next{w:WD}{x:lU}{wr w':WD}(h:Bh w x wr)(hb:Below wr.heap.size wr w'):Bh w x w':=⟨h.res.below hb h.res.lt,W3.below h.all hb (W3.lt h.all),h.below.trans (hb.mono h.below.size),Nat.le_trans h.size hb.size⟩
theorem Bh.drew{w:WD}{x:lU}{wr:WD}(h:Bh w x wr):Bh w x wr.drew:=⟨h.res,h.all,h.below.drew,h.size⟩
theorem Bh.set{w:WD}{x:lU}{wr:WD}(h:Bh w x wr)(y:lU):Bh w y (((wr.setCell ⟨w.heap.size+1,0,none⟩ (.int .i64 (y.1:Int))).setCell ⟨w.heap.size+1,1,none⟩ (.int .i64 (y.2.1:Int))).setCell ⟨w.heap.size+1,2,none⟩ (.int .i64 (y.2.2:Int))):=⟨W3.other _ _ _ _ _ _ _ _ _ h.res oo,W3.set _ _ _ _ _ _ _ _ h.all,jR h.below oo _ _ _,by simpa[World.setCell]using h.size⟩
theorem Bh.set2{w:WD}{x:lU}{wr:WD}(h:Bh w x wr)(y t:lU):Bh w (Bg y t) (((wr.setCell ⟨w.heap.size+1,0,none⟩ (.int .i64 ((y.1:Int)+(t.1:Int)))).setCell ⟨w.heap.size+1,1,none⟩ (.int .i64 ((y.2.1:Int)+(t.2.1:Int)))).setCell ⟨w.heap.size+1,2,none⟩ (.int .i64 ((y.2.2:Int)+(t.2.2:Int)))):=h.set (Bg y t)
abbrev Zd:=Nat×lU
def clC(x:Zd):List Av:=[.int .u64 (x.1:Int),.int .i64 (x.2.1:Int),.int .i64 (x.2.2.1:Int),.int .i64 (x.2.2.2:Int)]
def DJ:wV Zd:=fun _ _ x cs=>cs=clC x
theorem DJ.fair:Fair DJ:=fun _ _ _ _ _ _ _ _ h=>h
theorem DJ.sized:ug DJ 4:=by rintro S w x cs rfl;rfl
def okL(l:bY):Prop:=∀cx∈l,okC cx/\cnC cx<=1000000
theorem aee:∃i,prog.info? 248=some i/\i.zero=some (.agg #[.int .u64 0,.int .i64 0,.int .i64 0,.int .i64 0])/\i.size=4/\i.bytes=32:=info_parts Ao
theorem LG.cxq{f:Nat}{S:Nat->Prop}{w:WD}{l:bY}{g o i:Nat}(h:LG (AA (aQ f)) 1 S w l g o)(hi:i<l.length):∃cv,w.cell? ⟨g,o+i,none⟩=some cv/\SG (fO (aQ f)) 2 S w cv l[i]/\S g:=by obtain⟨h0,cs,⟨cv,rfl,hs⟩,hc⟩:=h.at l g o i hi;refine⟨cv,?_,hs,h0⟩;have:=hc 0 _ rfl;rw[Nat.mul_one,Nat.add_zero]at this;exact this
theorem ajS{a b:Nat}{w:WD}(h:a<=b):∀g,oD b w g->oD a w g:=fun _ hg=>⟨Nat.le_trans h hg.1,hg.2⟩
def JQ(a b:lU):Int:=Pn (a.1:Int) (a.2.1:Int) (a.2.2:Int) (b.1:Int) (b.2.1:Int) (b.2.2:Int)
def NC(e:Nat):lU->Bool->List Zd->lU×Bool
 |f,ok,[]=>(f,ok)
 |f,ok,x::r=>if hasB x.1 (e:Int)=true then NC e (if 0<JQ x.2 f then x.2 else f) true r else NC e f ok r
theorem aef(e:Nat)(f:lU)(ok:Bool){l:List Zd}{i:Nat}(h:i<l.length):NC e f ok (l.drop i)=if hasB l[i].1 (e:Int)=true then NC e (if 0<JQ l[i].2 f then l[i].2 else f) true (l.drop (i+1)) else NC e f ok (l.drop (i+1)):=by rw[List.drop_eq_getElem_cons h];rfl
def C4(w:WD)(b:Nat)(x:Zd):Prop:=w.heap[b]?=some (.cells #[.int .u64 (x.1:Int),.int .i64 (x.2.1:Int),.int .i64 (x.2.2.1:Int),.int .i64 (x.2.2.2:Int)] 248 (0,0))
theorem C4.cs{w:WD}{b:Nat}{x:Zd}(h:C4 w b x):w.cell? ⟨b,0,none⟩=some (.int .u64 (x.1:Int))/\w.cell? ⟨b,1,none⟩=some (.int .i64 (x.2.1:Int))/\w.cell? ⟨b,2,none⟩=some (.int .i64 (x.2.2.1:Int))/\w.cell? ⟨b,3,none⟩=some (.int .i64 (x.2.2.2:Int)):=by have h':w.heap[b]?=_:=h;refine⟨?_,?_,?_,?_⟩<;>(unfold World.cell?;rw[h'];rfl)
theorem C4.lt{w:WD}{b:Nat}{x:Zd}(h:C4 w b x):b<w.heap.size:=(Ay h)
theorem C4.new(w:WD)(x:Zd):C4 (w.alloc (.cells #[.int .u64 (x.1:Int),.int .i64 (x.2.1:Int),.int .i64 (x.2.2.1:Int),.int .i64 (x.2.2.2:Int)] 248)) w.heap.size x:=heap_alloc_new w _
theorem C4.below{w w':WD}{b:Nat}{x:Zd}(h:C4 w b x)(hb:Below w.heap.size w w'):C4 w' b x:=by show _=_;rw[hb.block _ h.lt];exact h
theorem LG.clq{S:Nat->Prop}{w:WD}{l:List Zd}{g o i:Nat}(h:LG DJ 4 S w l g o)(hi:i<l.length):(w.cell? ⟨g,o+i*4,none⟩=some (.int .u64 (l[i].1:Int))/\w.cell? ⟨g,o+i*4+1,none⟩=some (.int .i64 (l[i].2.1:Int))/\w.cell? ⟨g,o+i*4+2,none⟩=some (.int .i64 (l[i].2.2.1:Int))/\w.cell? ⟨g,o+i*4+3,none⟩=some (.int .i64 (l[i].2.2.2:Int)))/\S g:=by obtain⟨h0,cs,rfl,hc⟩:=h.at l g o i hi;refine⟨⟨?_,hc 1 _ rfl,hc 2 _ rfl,hc 3 _ rfl⟩,h0⟩;have:=hc 0 _ rfl;rwa[Nat.add_zero]at this
theorem XD(B:Nat)(cl:List Zd)(v:Av)(e:Nat)(w:WD)(h:SG DJ 4 (fun b=>b<B) w v cl)(hB:B<=w.heap.size)(he:e<64)(hs:∀x∈cl,x.1<18446744073709551616):
  Calls prog 94 #[v,.int .i64 (e:Int)] w fun ex w'=>ex=.returned (.tuple #[Pq (NC e (0,0,0) false cl).1,.bool (NC e (0,0,0) false cl).2])/\Below w.heap.size w w':=by
 have hl:=h.len;have I0:Hid (Bh w (0,0,0) ((w.alloc (.cells #[.int .i64 0,.int .i64 0,.int .i64 0] 177)).alloc (.cells #[.int .i64 0,.int .i64 0,.int .i64 0] 177))):=⟨(W3.new w 0 0 0).alloc _,(wQ w _).o,(Gf w _).o,by simp⟩
 have HS:=hid h;have HL:=hid hs;obtain⟨ca,cc,rfl⟩:=h.form;clear h hs;obtain⟨R,HR⟩:=Nm (NC e (0,0,0) false cl);rw[HR.o];have he1:(e:Int)<64:=oo;go_in;go_wp2_with fail;generalize(w.alloc (.cells #[.int .i64 0,.int .i64 0,.int .i64 0] 177)).alloc (.cells #[.int .i64 0,.int .i64 0,.int .i64 0] 177)=w0 at *;go_loopg[7,12] cl.length (fun gg v7 v12 wr=>∃(x:lU) (ok:Bool) (i:Nat),v7=.bool ok/\v12=.int .i64 (i:Int)/\i+gg=cl.length/\Aside (NC e x ok (cl.drop i)=R/\Bh w x wr));case atStart=>exact⟨(0,0,0),false,0,rfl,rfl,oo,HR.o,I0.o⟩
 case round=>
  obtain⟨go,hgo⟩:∃go,go=gk:=⟨_,rfl⟩;obtain⟨x,ok,i,rfl,rfl,hi,hA⟩:=hrel;have HC:Hid (NC e x ok (cl.drop i)=R/\Bh w x wr):=hA.o;clear hA;have hsr:=HC.o.2.below.size;by_cases hlt:i<cl.length
  .have h1:(i:Int)<(cl.length:Int):=oo;obtain⟨g,o,rfl,hL,hcap⟩:=(HS.o.below DJ.fair HC.o.2.below hB).here (by rintro rfl;simp at hlt);obtain⟨⟨d0,d1,d2,d3⟩,hgB⟩:=hL.clq (i:=i) hlt;have hys:=HL.o cl[i] (List.getElem_mem hlt);have HD:=aef e x ok hlt;generalize cl[i]=y at *;have Ze:=hid (HD.symm.trans HC.o.1);clear hL HD;have T2:Hid (C4 (wr.alloc (.cells #[.int .u64 (y.1:Int),.int .i64 (y.2.1:Int),.int .i64 (y.2.2.1:Int),.int .i64 (y.2.2.2:Int)] 248)) wr.heap.size y):=C4.new _ _;have I2:Hid (Bh w x (wr.alloc (.cells #[.int .u64 (y.1:Int),.int .i64 (y.2.1:Int),.int .i64 (y.2.2.1:Int),.int .i64 (y.2.2.2:Int)] 248))):=HC.o.2.next (Ax.alloc nl _);go_upto_region 6 with fail
   generalize wr.alloc (.cells #[.int .u64 (y.1:Int),.int .i64 (y.2.1:Int),.int .i64 (y.2.2.1:Int),.int .i64 (y.2.2.2:Int)] 248)=w2 at *;obtain⟨gt,mV⟩:=Nm wr.heap.size;have T3:Hid (C4 w2 gt y):=by rw[<-mV.o];exact T2.o
   rw[mV.o];clear T2 d0 d1 d2 d3;obtain⟨a0,a1,a2,a3⟩:=T3.o.cs;go_wp2_with fail;refine(EN y.1 (e:Int) _ hys oo).mono ?_;obtain⟨b,Hb⟩:=Nm (hasB y.1 (e:Int));rw[Hb.o];rw[Hb.o]at Ze;rintro ex wq ⟨rfl,hwq⟩;rw[hwq];clear hwq;cases b
   .have HE:Hid (NC e x ok (cl.drop (i+1))=R):=by have:=Ze.o;rwa[if_neg (by simp)]at this
    go_wp2_with fail;go_roundg(go-1);case measure=>omega
    case rel=>exact⟨x,ok,i+1,rfl,by congr 1,oo,HE.o,I2.o⟩
   .have HE:Hid (NC e (if 0<JQ y.2 x then y.2 else x) true (cl.drop (i+1))=R):=by have:=Ze.o;rwa[if_pos rfl]at this
    obtain⟨b0,b1,b2⟩:=W3.cs I2.o.all;go_wp2_with fail;refine(Po (y.2.1:Int) (y.2.2.1:Int) (y.2.2.2:Int) (x.1:Int) (x.2.1:Int) (x.2.2:Int) _).mono ?_;obtain⟨c,Hc⟩:=Nm (Pn (y.2.1:Int) (y.2.2.1:Int) (y.2.2.2:Int) (x.1:Int) (x.2.1:Int) (x.2.2:Int));rw[Hc.o];have HCW:Hid (JQ y.2 x=c):=Hc.o;rw[HCW.o]at HE;rintro ex w3 ⟨rfl,hb3⟩;have I3:=hid (I2.o.next hb3);have T4:=hid (T3.o.below hb3);clear hb3 b0 b1 b2 a0 a1 a2 a3 T3;obtain⟨a0,a1,a2,a3⟩:=T4.o.cs;by_cases hc:0<c
    .rw[if_pos hc]at HE;obtain⟨b0,b1,b2⟩:=W3.cs I3.o.all;have z0:=W3.fz I3.o.all 0;have z1:=W3.fz I3.o.all 1;have z2:=W3.fz I3.o.all 2;have I4:=hid (I3.o.set y.2);go_wp2_with fail;go_roundg(go-1);case measure=>omega
     case rel=>exact⟨y.2,true,i+1,rfl,by congr 1,oo,HE.o,I4.o⟩
    .rw[if_neg hc]at HE;have hc':c<=0:=oo;go_wp2_with fail;go_roundg(go-1);case measure=>omega
     case rel=>exact⟨x,true,i+1,rfl,by congr 1,oo,HE.o,I3.o⟩
  .have h1:(cl.length:Int)<=(i:Int):=oo;have HV:Hid ((x,ok)=R):=by
    show _=_;rw[<-HC.o.1,List.drop_of_length_le (show cl.length<=i by omega)];rfl
   obtain⟨b0,b1,b2⟩:=W3.cs HC.o.2.all;obtain⟨r0,r1,r2⟩:=HC.o.2.res.cs;have z0:=HC.o.2.res.fz 0;have z1:=HC.o.2.res.fz 1;have z2:=HC.o.2.res.fz 2;go_wp2_with fail;refine bodyPost_ret (v:=.tuple #[.agg #[.int .i64 (x.1:Int),.int .i64 (x.2.1:Int),.int .i64 (x.2.2:Int)],.bool ok]) (by simp[results,Tryz.results94,go_sem,r0,r1,r2]) rfl ?_;exact⟨by rw[<-HV.o];rfl,jR HC.o.2.below nl _ _ _⟩
open Go.Maps (Keyed)
open Go.ChangeMaps (setBlock modify_eq_set)
def pY(k:TypeId)(w:WD)(b:Nat)(m:Av->Option Av):Prop:=∃es clock,w.heap[b]?=some (.map es clock)/\(∀x∈es.toList,∃l,keyOf prog k x.key=some l)/\(∀x∈es.toList,m x.key=some x.val)/\(∀q v,m q=some v->∃x∈es.toList,x.key=q)/\es.toList.Pairwise (fun x y=>x.key≠y.key)
theorem pY.new(k:TypeId)(w:WD):pY k (w.alloc (.map #[] 0)) w.heap.size (fun _=>none):=⟨#[],0,heap_alloc_new w _,by simp,by simp,by simp,by simp⟩
theorem pY.lt{k:TypeId}{w:WD}{b:Nat}{m:Av->Option Av}(h:pY k w b m):b<w.heap.size:=by obtain⟨es,c,h1,_⟩:=h;exact(Ay h1)
theorem pY.keep{k:TypeId}{w w':WD}{b:Nat}{m:Av->Option Av}(h:pY k w b m)(hb:w'.heap[b]?=w.heap[b]?):pY k w' b m:=by obtain⟨es,c,h1,h2⟩:=h;exact⟨es,c,hb.trans h1,h2⟩
theorem pY.look{k t e:TypeId}{w:WD}{b:Nat}{m:Av->Option Av}(h:pY k w b m)(K:Keyed prog k)(ht:prog.underlying t=some (.map k e)){z:Av}(hz:(zeroValue e).run prog w=.ok z w){key:Av}{l:Go.Lit}(hk:keyOf prog k key=some l):
  (Instr.lookup t (.map (some b)) key true).run prog w=.ok (.tuple #[(m key).getD z,.bool (m key).isSome]) w:=by
 obtain⟨es,c,h1,h2,h3,h4,h5⟩:=h;rcases K.find w hk es.toList h2 with⟨hf,hn⟩|⟨j,e0,hf,hj,he⟩
 .have hm:m key=none:=by
   cases hq:m key with
   |none=>rfl
   |some v=>obtain⟨x,hx,e⟩:=h4 _ _ hq;exact absurd e (hn x hx)
  rw[hm];simp[Instr.lookup,run_underlying ht,MapKept.run_getObj_map h1,K.check w _ hk,hf,hz,Result.andThen]
 .have hm:m key=some e0.val:=by rw[<-he];exact h3 e0 (List.mem_of_getElem? hj)
  rw[hm];simp[Instr.lookup,run_underlying ht,MapKept.run_getObj_map h1,K.check w _ hk,hf,Result.andThen]
theorem pY.upd{k t e:TypeId}{w:WD}{b:Nat}{m m':Av->Option Av}(h:pY k w b m)(K:Keyed prog k)(ht:prog.underlying t=some (.map k e)){key val:Av}{l:Go.Lit}(hk:keyOf prog k key=some l)(h1':m' key=some val)(h2':∀q,q≠key->m' q=m q):
  ∃o,(Instr.mapUpdate t (.map (some b)) key val).run prog w=.ok () (setBlock w b o)/\pY k (setBlock w b o) b m':=by
 have hlt:=h.lt;obtain⟨es,c,h1,h2,h3,h4,h5⟩:=h;have hnew:∀o,(setBlock w b o).heap[b]?=some o:=fun o=>by show(w.heap.setIfInBounds b o)[b]?=_;simp[hlt]
 rcases K.find w hk es.toList h2 with⟨hf,hn⟩|⟨j,e0,hf,hj,he⟩
 .refine⟨.map (es.push ⟨key,val,c⟩) (c+1),?_,es.push ⟨key,val,c⟩,c+1,hnew _,?_,?_,?_,?_⟩
  .simp[Instr.mapUpdate,run_underlying ht,MapKept.run_getObj_map h1,K.check w false hk,hf,MapKept.run_setObj_map _ h1,Result.andThen,setBlock]
  .intro x hx;simp only[Array.toList_push,List.mem_append,List.mem_singleton]at hx;rcases hx with hx|rfl
   .exact h2 x hx
   .exact⟨l,hk⟩
  .intro x hx;simp only[Array.toList_push,List.mem_append,List.mem_singleton]at hx;rcases hx with hx|rfl
   .rw[h2' _ (hn x hx)];exact h3 x hx
   .exact h1'
  .intro q v hq;simp only[Array.toList_push,List.mem_append,List.mem_singleton];by_cases e1:q=key
   .exact⟨_,Or.inr rfl,e1.symm⟩
   .rw[h2' _ e1]at hq;obtain⟨x,hx,e2⟩:=h4 _ _ hq;exact⟨x,Or.inl hx,e2⟩
  .rw[Array.toList_push,List.pairwise_append];refine⟨h5,by simp,fun x hx y hy=>?_⟩;rw[List.mem_singleton.1 hy];exact hn x hx
 .have hj':es[j]?=some e0:=by simpa using hj
  have hjl:j<es.toList.length:=(List.getElem?_eq_some_iff.1 hj).1;have hlist:(es.modify j (fun e'=>{ e' with key:=key,val:=val })).toList=es.toList.set j { e0 with key:=key,val:=val }:=by rw[Array.toList_modify,modify_eq_set _ _ _ _ hj]
  have oth:∀i x,i≠j->es.toList[i]?=some x->x.key≠key:=by
   intro i x hij hx e1;have hp:=List.pairwise_iff_getElem.1 h5;obtain⟨hil,ex⟩:=List.getElem?_eq_some_iff.1 hx;obtain⟨_,ej⟩:=List.getElem?_eq_some_iff.1 hj;rcases Nat.lt_or_gt_of_ne hij with hlt2|hgt
   .exact hp i j hil hjl hlt2 (by rw[ex,ej,e1,he])
   .exact hp j i hjl hil hgt (by rw[ex,ej,e1,he])
  have who:∀x∈es.toList.set j { e0 with key:=key,val:=val },x = { e0 with key:=key,val:=val }\/(x∈es.toList/\x.key≠key):=by
   intro x hx;obtain⟨i,hi,ex⟩:=List.getElem_of_mem hx;rw[List.getElem_set]at ex;split at ex
   .exact Or.inl ex.symm
   .rename_i hne;have hi':i<es.toList.length:=by simpa using hi
    exact Or.inr ⟨ex ▸ List.getElem_mem hi',oth i x (fun e1=>hne e1.symm) (by rw[List.getElem?_eq_getElem hi',ex])⟩
  refine⟨.map (es.modify j (fun e'=>{ e' with key:=key,val:=val })) c,?_,_,c,hnew _,?_,?_,?_,?_⟩
  .simp[Instr.mapUpdate,run_underlying ht,MapKept.run_getObj_map h1,K.check w false hk,hf,hj',he,K.stays w hk,MapKept.run_setObj_map _ h1,Result.andThen,setBlock]
  .intro x hx;rw[hlist]at hx;rcases who x hx with rfl|⟨hx,_⟩
   .exact⟨l,hk⟩
   .exact h2 x hx
  .intro x hx;rw[hlist]at hx;rcases who x hx with rfl|⟨hx,hne⟩
   .exact h1'
   .rw[h2' _ hne];exact h3 x hx
  .intro q v hq;rw[hlist];by_cases e1:q=key
   .exact⟨{ e0 with key:=key,val:=val },List.mem_iff_getElem.2 ⟨j,by simpa using hjl,by simp⟩,e1.symm⟩
   .rw[h2' _ e1]at hq;obtain⟨x,hx,e2⟩:=h4 _ _ hq;obtain⟨i,hi,ex⟩:=List.getElem_of_mem hx;have hne:i≠j:=by
     rintro rfl;have:=(List.getElem?_eq_some_iff.1 hj).2;rw[ex]at this;exact e1 (by rw[<-e2,this,he])
    exact⟨x,List.mem_iff_getElem.2 ⟨i,by simpa using hi,by rw[List.getElem_set_ne (fun e3=>hne e3.symm)];exact ex⟩,e2⟩
  .rw[hlist];rw[List.pairwise_iff_getElem];intro a b' ha hb' hab;have hp:=List.pairwise_iff_getElem.1 h5;have ha':a<es.toList.length:=by simpa using ha
   have hb2:b'<es.toList.length:=by simpa using hb'
   rw[List.getElem_set,List.getElem_set];split
   .rename_i e1;subst e1;rw[if_neg oo];exact fun e2=>oth b' _ oo (List.getElem?_eq_getElem hb2) e2.symm
   .rename_i e1;split
    .exact oth a _ (fun e3=>e1 e3.symm) (List.getElem?_eq_getElem ha')
    .exact hp a b' ha' hb2 hab
open Go.ChangeMaps (setBlock)
open Go.Maps (Keyed string_keyed)
structure jS where
 pr:BY
 val:List Nd
 imp:Bool
 wt:lU
def wnV(x:jS)(v:Av):Av:=.agg #[.string x.pr,v,.bool x.imp,.int .i64 (x.wt.1:Int),.int .i64 (x.wt.2.1:Int),.int .i64 (x.wt.2.2:Int)]
def btW(a b:jS):Bool:=if a.imp=b.imp then decide (0<=JQ a.wt b.wt) else a.imp
def Wn(w:WD)(b:Nat)(x:jS)(v:Av):Prop:=w.heap[b]?=some (.cells #[.string x.pr,v,.bool x.imp,.int .i64 (x.wt.1:Int),.int .i64 (x.wt.2.1:Int),.int .i64 (x.wt.2.2:Int)] 184 (0,0))
theorem Wn.cs{w:WD}{b:Nat}{x:jS}{v:Av}(h:Wn w b x v):w.cell? ⟨b,0,none⟩=some (.string x.pr)/\w.cell? ⟨b,1,none⟩=some v/\w.cell? ⟨b,2,none⟩=some (.bool x.imp)/\w.cell? ⟨b,3,none⟩=some (.int .i64 (x.wt.1:Int))/\w.cell? ⟨b,4,none⟩=some (.int .i64 (x.wt.2.1:Int))/\w.cell? ⟨b,5,none⟩=some (.int .i64 (x.wt.2.2:Int)):=by have h':w.heap[b]?=_:=h;refine⟨?_,?_,?_,?_,?_,?_⟩<;>(unfold World.cell?;rw[h'];rfl)
theorem Wn.lt{w:WD}{b:Nat}{x:jS}{v:Av}(h:Wn w b x v):b<w.heap.size:=(Ay h)
theorem Wn.new(w:WD)(x:jS)(v:Av):Wn (w.alloc (.cells #[.string x.pr,v,.bool x.imp,.int .i64 (x.wt.1:Int),.int .i64 (x.wt.2.1:Int),.int .i64 (x.wt.2.2:Int)] 184)) w.heap.size x v:=heap_alloc_new w _
theorem Wn.below{w w':WD}{b:Nat}{x:jS}{v:Av}(h:Wn w b x v)(hb:Below w.heap.size w w'):Wn w' b x v:=by show _=_;rw[hb.block _ h.lt];exact h
theorem aha(x y:jS)(va:Option Addr)(vl vc:Nat)(ua:Option Addr)(ul uc:Nat)(w:WD):
  Calls prog 160 #[wnV x (.slice va vl vc),wnV y (.slice ua ul uc)] w fun ex w'=>ex=.returned (.bool (btW x y))/\Below w.heap.size w w':=by
 unfold wnV;have A0:Hid (Wn ((w.alloc (.cells #[.string x.pr,.slice va vl vc,.bool x.imp,.int .i64 (x.wt.1:Int),.int .i64 (x.wt.2.1:Int),.int .i64 (x.wt.2.2:Int)] 184)).alloc (.cells #[.string y.pr,.slice ua ul uc,.bool y.imp,.int .i64 (y.wt.1:Int),.int .i64 (y.wt.2.1:Int),.int .i64 (y.wt.2.2:Int)] 184)) w.heap.size x (.slice va vl vc)):=(Wn.new w x _).below (Ax.alloc nl _);have A1:Hid (Wn ((w.alloc (.cells #[.string x.pr,.slice va vl vc,.bool x.imp,.int .i64 (x.wt.1:Int),.int .i64 (x.wt.2.1:Int),.int .i64 (x.wt.2.2:Int)] 184)).alloc (.cells #[.string y.pr,.slice ua ul uc,.bool y.imp,.int .i64 (y.wt.1:Int),.int .i64 (y.wt.2.1:Int),.int .i64 (y.wt.2.2:Int)] 184)) (w.heap.size+1) y (.slice ua ul uc)):=by have:=Wn.new (w.alloc (.cells #[.string x.pr,.slice va vl vc,.bool x.imp,.int .i64 (x.wt.1:Int),.int .i64 (x.wt.2.1:Int),.int .i64 (x.wt.2.2:Int)] 184)) y (.slice ua ul uc);show Wn _ _ _ _;simpa using this
 have B0:Hid (Below w.heap.size w ((w.alloc (.cells #[.string x.pr,.slice va vl vc,.bool x.imp,.int .i64 (x.wt.1:Int),.int .i64 (x.wt.2.1:Int),.int .i64 (x.wt.2.2:Int)] 184)).alloc (.cells #[.string y.pr,.slice ua ul uc,.bool y.imp,.int .i64 (y.wt.1:Int),.int .i64 (y.wt.2.1:Int),.int .i64 (y.wt.2.2:Int)] 184))):=(Ax.alloc nl _).alloc Ab _;obtain⟨xi,Hxi⟩:=Nm x.imp;obtain⟨yi,Hyi⟩:=Nm y.imp;have HV:Hid (btW x y=if xi=yi then decide (0<=JQ x.wt y.wt) else xi):=by show _=_;unfold btW;rw[Hxi.o,Hyi.o]
 go_in;go_upto_region 1 with fail
 generalize(w.alloc (.cells #[.string x.pr,.slice va vl vc,.bool x.imp,.int .i64 (x.wt.1:Int),.int .i64 (x.wt.2.1:Int),.int .i64 (x.wt.2.2:Int)] 184)).alloc (.cells #[.string y.pr,.slice ua ul uc,.bool y.imp,.int .i64 (y.wt.1:Int),.int .i64 (y.wt.2.1:Int),.int .i64 (y.wt.2.2:Int)] 184)=w2 at *;obtain⟨a0,a1,a2,a3,a4,a5⟩:=A0.o.cs;obtain⟨c0,c1,c2,c3,c4,c5⟩:=A1.o.cs;rw[Hxi.o]at a2;rw[Hyi.o]at c2;have hsz:=B0.o.size;cases xi<;>cases yi
 .go_wp2_with fail;refine(Po (x.wt.1:Int) (x.wt.2.1:Int) (x.wt.2.2:Int) (y.wt.1:Int) (y.wt.2.1:Int) (y.wt.2.2:Int) _).mono ?_;rintro ex w3 ⟨rfl,hb3⟩;have B3:=hid (B0.o.trans (hb3.mono hsz));clear hb3;have HV':Hid (btW x y=decide (0<=Pn (x.wt.1:Int) (x.wt.2.1:Int) (x.wt.2.2:Int) (y.wt.1:Int) (y.wt.2.1:Int) (y.wt.2.2:Int))):=HV.o;go_wp2_with fail;go_ret;exact⟨by rw[HV'.o];rfl,B3.o⟩
 .go_wp2_with fail;go_ret;exact⟨by rw[HV.o];rfl,B0.o⟩
 .go_wp2_with fail;go_ret;exact⟨by rw[HV.o];rfl,B0.o⟩
 .go_wp2_with fail;refine(Po (x.wt.1:Int) (x.wt.2.1:Int) (x.wt.2.2:Int) (y.wt.1:Int) (y.wt.2.1:Int) (y.wt.2.2:Int) _).mono ?_;rintro ex w3 ⟨rfl,hb3⟩;have B3:=hid (B0.o.trans (hb3.mono hsz));clear hb3;have HV':Hid (btW x y=decide (0<=Pn (x.wt.1:Int) (x.wt.2.1:Int) (x.wt.2.2:Int) (y.wt.1:Int) (y.wt.2.1:Int) (y.wt.2.2:Int))):=HV.o;go_wp2_with fail;go_ret;exact⟨by rw[HV'.o];rfl,B3.o⟩
open Go.ChangeMaps (setBlock)
open Go.Maps (Keyed string_keyed)
def pG(B:Nat)(w:WD)(b:Nat)(f:BY->Option jS):Prop:=
 ∃m,pY 9 w b m/\∀s,match f s with|none=>m (.string s)=none|some x=>x.pr=s/\∃va vc,m (.string s)=some (wnV x (.slice va x.val.length vc))/\Sl (fun g=>g<B) w (.slice va x.val.length vc) x.val
def zG(f:BY->Option jS)(x:jS):BY->Option jS:=fun s=>if s=x.pr then(match f x.pr with|none=>some x|some y=>if btW x y=true then some x else some y) else f s
theorem pG.none{B:Nat}{w:WD}{b:Nat}(h:pY 9 w b (fun _=>.none)):pG B w b (fun _=>.none):=⟨_,h,fun _=>rfl⟩
theorem pG.lt{B:Nat}{w:WD}{b:Nat}{f:BY->Option jS}(h:pG B w b f):b<w.heap.size:=by obtain⟨m,h1,_⟩:=h;exact h1.lt
theorem pG.keep{B:Nat}{w w':WD}{b:Nat}{f:BY->Option jS}(h:pG B w b f)(hb:Below B w w')(he:w'.heap[b]?=w.heap[b]?):pG B w' b f:=by
 obtain⟨m,h1,h2⟩:=h;refine⟨m,h1.keep he,fun s=>?_⟩;have h3:=h2 s;cases hf:f s with
 |none=>rw[hf]at h3;exact h3
 |some x=>rw[hf]at h3;obtain⟨e,va,vc,h4,h5⟩:=h3;exact⟨e,va,vc,h4,h5.below hb nl⟩
theorem qO:Keyed prog 9:=string_keyed Tryz.underlying9
theorem JR(w:WD):(zeroValue 184).run prog w=.ok (.agg #[.string ⟨#[]⟩,.slice none 0 0,.bool false,.int .i64 0,.int .i64 0,.int .i64 0]) w:=by kernel_rfl
theorem zo{s:BY}(h:s.size<=4000000):keyOf prog 9 (.string s)=some (.string s.data.toList):=WideMaps.keyOf_string_mk Tryz.underlying9 As
theorem JU{a b:BY}(h:(.string a:Av)=.string b):a=b:=by cases h;rfl
theorem pG.upd{B:Nat}{w:WD}{b:Nat}{f f':BY->Option jS}{x:jS}{va:Option Addr}{vc:Nat}(h:pG B w b f)(hB:B<=b)(hx:Sl (fun g=>g<B) w (.slice va x.val.length vc) x.val)(hp:x.pr.size<=4000000)
  (h1:f' x.pr=some x) (h2:∀s,s≠x.pr->f' s=f s):
  ∃o,(Instr.mapUpdate 127 (.map (some b)) (.string x.pr) (wnV x (.slice va x.val.length vc))).run prog w=.ok () (setBlock w b o)/\pG B (setBlock w b o) b f':=by
 obtain⟨m,hm,hf⟩:=h;have hlt:=hm.lt;open Classical in
 obtain⟨o,hr,hm'⟩:=hm.upd (m':=fun q=>if q=.string x.pr then some (wnV x (.slice va x.val.length vc)) else m q) qO Tryz.underlying127 (zo hp) (if_pos rfl) (fun q hq=>if_neg hq);have hbl:Below B w (setBlock w b o):=⟨rfl,rfl,rfl,by show _<=(w.heap.setIfInBounds b o).size;simp,fun g hg=>by show(w.heap.setIfInBounds b o)[g]?=_;rw[Array.getElem?_setIfInBounds_ne oo]⟩
 refine⟨o,hr,_,hm',fun s=>?_⟩;by_cases e:s=x.pr
 .subst e;rw[h1];exact⟨rfl,va,vc,if_pos rfl,hx.below hbl nl⟩
 .rw[h2 s e];have h3:=hf s;have hne:¬(Value.string s=.string x.pr):=fun h=>e (JU h);cases hq:f s with
  |none=>rw[hq]at h3;exact(if_neg hne).trans h3
  |some y=>rw[hq]at h3;obtain⟨e1,va',vc',h4,h5⟩:=h3;exact⟨e1,va',vc',(if_neg hne).trans h4,h5.below hbl nl⟩
theorem JV{mb:Nat}{w w2:WD}{o:Obj}(h:Below w.heap.size w w2):Turn mb w (setBlock w2 mb o):=
 ⟨h.os,h.tape,h.output,by show _<=(w2.heap.setIfInBounds mb o).size;simpa using h.size,fun g hg hne=>by show(w2.heap.setIfInBounds mb o)[g]?=_;rw[Array.getElem?_setIfInBounds_ne (fun e=>hne e.symm)];exact h.block g hg⟩
theorem ahb(B:Nat)(f:BY->Option jS)(mb:Nat)(x:jS)(va:Option Addr)(vc:Nat)(w:WD)(h:pG B w mb f)(hB:B<=mb)(hx:Sl (fun g=>g<B) w (.slice va x.val.length vc) x.val)(hp:x.pr.size<=4000000):
  Calls prog 95 #[.map (some mb),wnV x (.slice va x.val.length vc)] w fun ex w'=>ex=.returned (.tuple #[])/\pG B w' mb (zG f x)/\Turn mb w w':=by
 have hml:=h.lt;have B0:Hid (Below w.heap.size w (w.alloc (.cells #[.string x.pr,.slice va x.val.length vc,.bool x.imp,.int .i64 (x.wt.1:Int),.int .i64 (x.wt.2.1:Int),.int .i64 (x.wt.2.2:Int)] 184))):=Ax.alloc nl _;have A0:Hid (Wn (w.alloc (.cells #[.string x.pr,.slice va x.val.length vc,.bool x.imp,.int .i64 (x.wt.1:Int),.int .i64 (x.wt.2.1:Int),.int .i64 (x.wt.2.2:Int)] 184)) w.heap.size x (.slice va x.val.length vc)):=Wn.new _ _ _;have M0:Hid (pG B (w.alloc (.cells #[.string x.pr,.slice va x.val.length vc,.bool x.imp,.int .i64 (x.wt.1:Int),.int .i64 (x.wt.2.1:Int),.int .i64 (x.wt.2.2:Int)] 184)) mb f):=h.keep (B0.o.mono oo) (B0.o.block _ hml)
 have HX:=hid (hx.below B0.o oo);clear h hx;unfold wnV;go_in;go_upto_region 1 with fail
 generalize w.alloc (.cells #[.string x.pr,.slice va x.val.length vc,.bool x.imp,.int .i64 (x.wt.1:Int),.int .i64 (x.wt.2.1:Int),.int .i64 (x.wt.2.2:Int)] 184)=w1 at *;obtain⟨nb,Gi⟩:=Nm w.heap.size;rw[Gi.o]at A0;rw[Gi.o];obtain⟨a0,a1,a2,a3,a4,a5⟩:=A0.o.cs;obtain⟨m,hm,hf⟩:=M0.o;have hlk:=hm.look qO Tryz.underlying127 (JR w1) (zo hp);have hfx:=hf x.pr;cases hfp:f x.pr with
 |none=>
  rw[hfp]at hfx;have yD:m (.string x.pr)=none:=hfx;rw[yD]at hlk;clear hf hfx yD hm;have B1:Hid (Below w1.heap.size w1 (w1.alloc (.cells #[.string ⟨#[]⟩,.slice none 0 0,.bool false,.int .i64 0,.int .i64 0,.int .i64 0] 184))):=Ax.alloc nl _;go_upto_region 2 with fail
  generalize w1.alloc (.cells #[.string ⟨#[]⟩,.slice none 0 0,.bool false,.int .i64 0,.int .i64 0,.int .i64 0] 184)=w2 at *;have A2:=hid (A0.o.below B1.o);have BW:=hid (AC B0.o B1.o);have M2:Hid (pG B w2 mb f):=M0.o.keep (B1.o.mono (by have:=B0.o.size;omega)) (B1.o.block _ (by have:=B0.o.size;omega));have HX2:Hid (Sl (fun g=>g<B) w2 (.slice va x.val.length vc) x.val):=HX.o.below B1.o (by have:=B0.o.size;omega);clear a0 a1 a2 a3 a4 a5 hlk;obtain⟨a0,a1,a2,a3,a4,a5⟩:=A2.o.cs;obtain⟨o,hr,hM⟩:=M2.o.upd (f':=zG f x) hB HX2.o hp (by unfold zG;rw[if_pos rfl,hfp]) (fun s hs=>by unfold zG;rw[if_neg hs]);unfold wnV at hr;have HE:=hid hM;have HT:Hid (Turn mb w (setBlock w2 mb o)):=JV BW.o;clear hM;go_wp2_with fail;go_end0
  exact⟨rfl,HE.o,HT.o⟩
 |some y=>
  rw[hfp]at hfx;obtain⟨epr,ya,yc,yD,hys⟩:=hfx;rw[yD]at hlk;have EPR:=hid epr;clear epr;unfold wnV at hlk;simp only[Option.getD_some,Option.isSome_some]at hlk;clear hf yD hm;have B1:Hid (Below w1.heap.size w1 (w1.alloc (.cells #[.string y.pr,.slice ya y.val.length yc,.bool y.imp,.int .i64 (y.wt.1:Int),.int .i64 (y.wt.2.1:Int),.int .i64 (y.wt.2.2:Int)] 184))):=Ax.alloc nl _;have Y2:Hid (Wn (w1.alloc (.cells #[.string y.pr,.slice ya y.val.length yc,.bool y.imp,.int .i64 (y.wt.1:Int),.int .i64 (y.wt.2.1:Int),.int .i64 (y.wt.2.2:Int)] 184)) w1.heap.size y (.slice ya y.val.length yc)):=Wn.new _ _ _;go_upto_region 2 with fail
  generalize w1.alloc (.cells #[.string y.pr,.slice ya y.val.length yc,.bool y.imp,.int .i64 (y.wt.1:Int),.int .i64 (y.wt.2.1:Int),.int .i64 (y.wt.2.2:Int)] 184)=w2 at *;have A2:=hid (A0.o.below B1.o);have BW:=hid (AC B0.o B1.o);have M2:Hid (pG B w2 mb f):=M0.o.keep (B1.o.mono (by have:=B0.o.size;omega)) (B1.o.block _ (by have:=B0.o.size;omega));have HX2:Hid (Sl (fun g=>g<B) w2 (.slice va x.val.length vc) x.val):=HX.o.below B1.o (by have:=B0.o.size;omega);have hs2:=BW.o.size;clear a0 a1 a2 a3 a4 a5 hlk hys;obtain⟨a0,a1,a2,a3,a4,a5⟩:=A2.o.cs;obtain⟨c0,c1,c2,c3,c4,c5⟩:=Y2.o.cs;go_wp2_with fail;refine(aha x y va x.val.length vc ya y.val.length yc _).mono ?_;obtain⟨b,Hb⟩:=Nm (btW x y);rw[Hb.o];rintro ex w3 ⟨rfl,hb3⟩
  have A3:=hid (A2.o.below hb3);have BW3:=hid (BW.o.trans (hb3.mono hs2));have M3:Hid (pG B w3 mb f):=M2.o.keep (hb3.mono oo) (hb3.block _ oo);have HX3:=hid (HX2.o.below hb3 oo);clear hb3 a0 a1 a2 a3 a4 a5 c0 c1 c2 c3 c4 c5;obtain⟨a0,a1,a2,a3,a4,a5⟩:=A3.o.cs;cases b
  .have HE:Hid (zG f x=f):=by
    show _=_;funext s
    unfold zG;by_cases e:s=x.pr
    .rw[if_pos e,hfp,e,hfp];show(if btW x y=true then some x else some y)=some y;rw[Hb.o];rfl
    .rw[if_neg e]
   have HT:Hid (Turn mb w w3):=Turn.of_below BW3.o;go_wp2_with fail;go_end0
   exact⟨rfl,by rw[HE.o];exact M3.o,HT.o⟩
  .obtain⟨o,hr,hM⟩:=M3.o.upd (f':=zG f x) hB HX3.o hp (by unfold zG;rw[if_pos rfl,hfp];show(if btW x y=true then some x else some y)=some x;rw[Hb.o];rfl) (fun s hs=>by unfold zG;rw[if_neg hs]);unfold wnV at hr;have HE:=hid hM;have HT:Hid (Turn mb w (setBlock w3 mb o)):=JV BW3.o;clear hM;go_wp2_with fail;go_end0
   exact⟨rfl,HE.o,HT.o⟩
section
attribute [local go_sem] bI bJ aX aY
def CDv:wV (Dec×Av):=fun _ _ x cs=>cs=[.string x.1.prop,x.2,.bool x.1.imp]
theorem CDv.fair:Fair CDv:=fun _ _ _ _ _ _ _ _ h=>h
theorem CDv.sized:ug CDv 3:=by rintro S w x cs rfl;rfl
def ahc(B:Nat)(w:WD)(x:Dec×Av):Prop:=(∃va vc,x.2=.slice va x.1.val.length vc)/\Sl (fun b=>b<B) w x.2 x.1.val/\x.1.prop.size<=4000000
theorem aiv{B:Nat}{S:Nat->Prop}{w:WD}:∀ {l:List Dec}{cs:List Av},jC vS (fun b=>b<B) w l cs->∃xs:List (Dec×Av),xs.map Prod.fst=l/\jC CDv S w xs cs/\∀x∈xs,ahc B w x
 |[],_,h=>⟨[],rfl,h,by simp⟩
 |d::_,_,⟨c,rest,e,⟨vv,h1,h2,h3⟩,h4⟩=>by
  obtain⟨xs,e1,e2,e3⟩:=aiv (S:=S) h4;refine⟨(d,vv)::xs,by rw[List.map_cons,e1],⟨c,rest,e,h1,e2⟩,?_⟩;intro x hx;rcases List.mem_cons.1 hx with rfl|hx
  .exact⟨h2.form,h2,h3⟩
  .exact e3 x hx
theorem ahd{B:Nat}{w:WD}{base:Nat}{u:Av}{acc:List Dec}{cs:List Av}(h1:w.ownsRow base 181 3 u acc.length cs)(h2:jC vS (fun b=>b<B) w acc cs)(h6:acc.length<=2097152):
  ∃xs:List (Dec×Av),xs.map Prod.fst=acc/\SG CDv 3 (oD base w) w u xs/\∀x∈xs,ahc B w x:=by
 obtain⟨xs,e1,e2,e3⟩:=aiv (S:=DZ base w u) h2;have hl:xs.length=acc.length:=by rw[<-e1,List.length_map]
 exact⟨xs,e1,(show MG CDv 3 181 base w u xs from⟨cs,by rw[hl];exact h1,e2⟩).sl CDv.fair CDv.sized oo,e3⟩
theorem JW(B:Nat)(l:List Nd)(v:Av)(w:WD)(h:Sl (fun b=>b<B) w v l)(hB:B<=w.heap.size):
  Calls prog 93 #[v] w fun e w'=>∃u,e=.returned u/\(∃xs:List (Dec×Av),xs.map Prod.fst=decls l/\SG CDv 3 (oD w.heap.size w') w' u xs/\∀x∈xs,ahc B w' x)/\Below w.heap.size w w':=by
 refine(xW B l v w h hB).mono ?_;rintro e w' ⟨u,cs,h1,⟨h2,h3,h4,_⟩,h6⟩;exact⟨u,h1,ahd h2 h3 h4,h6⟩
end
structure dJ(bs:List Nat)(w w':WD):Prop where
 os:w'.os=w.os
 tape:w'.tape=w.tape
 output:w'.output=w.output
 size:w.heap.size<=w'.heap.size
 block:∀k,k<w.heap.size->k ∉ bs->w'.heap[k]?=w.heap[k]?
theorem dJ.refl(bs:List Nat)(w:WD):dJ bs w w:=⟨rfl,rfl,rfl,Nat.le_refl _,fun _ _ _=>rfl⟩
theorem dJ.trans{bs:List Nat}{x y z:WD}(h:dJ bs x y)(k:dJ bs y z):dJ bs x z:=⟨k.os.trans h.os,k.tape.trans h.tape,k.output.trans h.output,Nat.le_trans h.size k.size,fun g hg hb=>(k.block g (Nat.lt_of_lt_of_le hg h.size) hb).trans (h.block g hg hb)⟩
theorem dJ.of_below{bs:List Nat}{x y:WD}(h:Below x.heap.size x y):dJ bs x y:=⟨h.os,h.tape,h.output,h.size,fun g hg _=>h.block g hg⟩
theorem dJ.ahe{bs:List Nat}{b:Nat}{x y:WD}(h:Turn b x y)(hb:b∈bs):dJ bs x y:=⟨h.os,h.tape,h.output,h.size,fun g hg hn=>h.block g hg (fun e=>hn (e ▸ hb))⟩
theorem dJ.below{bs:List Nat}{B:Nat}{x y:WD}(h:dJ bs x y)(hB:∀b∈bs,B<=b)(hx:B<=x.heap.size):Below B x y:=⟨h.os,h.tape,h.output,h.size,fun g hg=>h.block g oo (fun hm=>by have:=hB g hm;omega)⟩
def mF(B:Nat)(w:WD)(bs:List Nat)(G:Nat->BY->Option jS):Prop:=∀i (h:i<bs.length),pG B w bs[i] (G i)
theorem mF.below{B:Nat}{w w':WD}{bs:List Nat}{G:Nat->BY->Option jS}(h:mF B w bs G)(hb:Below w.heap.size w w')(hB:B<=w.heap.size):mF B w' bs G:=fun i hi=>(h i hi).keep (hb.mono hB) (hb.block _ (h i hi).lt)
theorem mF.upd{B:Nat}{w w':WD}{bs:List Nat}{G:Nat->BY->Option jS}{g:BY->Option jS}{k:Nat}(h:mF B w bs G)(hk:k<bs.length)(ht:Turn bs[k] w w')(hw:pG B w' bs[k] g)(hd:bs.Nodup)(hB:∀b∈bs,B<=b):
  mF B w' bs (fun i=>if i=k then g else G i):=by
 intro i hi;by_cases e:i=k
 .subst e;simp only[if_pos];exact hw
 .simp only[if_neg e];have hne:bs[i]≠bs[k]:=fun e2=>e ((List.getElem_inj hd).1 e2);have hkB:=hB bs[k] (List.getElem_mem hk);have hl:=(h k hk).lt;exact(h i hi).keep (ht.below hkB oo) (ht.block _ (h i hi).lt hne)
theorem LG.dvq{S:Nat->Prop}{w:WD}{l:List (Dec×Av)}{g o i:Nat}(h:LG CDv 3 S w l g o)(hi:i<l.length):(w.cell? ⟨g,o+i*3,none⟩=some (.string l[i].1.prop)/\w.cell? ⟨g,o+i*3+1,none⟩=some l[i].2/\w.cell? ⟨g,o+i*3+2,none⟩=some (.bool l[i].1.imp))/\S g:=by obtain⟨h0,cs,rfl,hc⟩:=h.at l g o i hi;refine⟨⟨?_,hc 1 _ rfl,hc 2 _ rfl⟩,h0⟩;have:=hc 0 _ rfl;rwa[Nat.add_zero]at this
theorem jZ.mono{B B':Nat}{w:WD}{p:aI}{a:Option Addr}{cap:Nat}(h:jZ B w p a cap)(h1:B<=B')(h2:B'<=w.heap.size):jZ B' w p a cap:=⟨h.sg.mono wO.fair h1,h2,h.pg⟩
def Py(t:lU)(g:BY->Option jS)(d:Dec):BY->Option jS:=zG g ⟨d.prop,d.val,d.imp,t⟩
def qg(cl:List Zd)(ds:List Dec)(i:Nat)(g:BY->Option jS):BY->Option jS:=if (NC i (0,0,0) false cl).2=true then ds.foldl (Py (NC i (0,0,0) false cl).1) g else g
theorem Bj{α β:Type}(f:β->α->β)(b:β)(l:List α){j:Nat}(h:j<l.length):(l.take (j+1)).foldl f b=f ((l.take j).foldl f b) l[j]:=by rw[List.take_succ_eq_append_getElem h,List.foldl_append];rfl
def K3(w:WD)(b:Nat)(x0 x1 x2:Av):Prop:=w.heap[b]?=some (.cells #[x0,x1,x2] 77 (0,0))
theorem K3.cs{w:WD}{b:Nat}{x0 x1 x2:Av}(h:K3 w b x0 x1 x2):w.cell? ⟨b,0,none⟩=some x0/\w.cell? ⟨b,1,none⟩=some x1/\w.cell? ⟨b,2,none⟩=some x2:=by have h':w.heap[b]?=_:=h;refine⟨?_,?_,?_⟩<;>(unfold World.cell?;rw[h'];rfl)
theorem K3.lt{w:WD}{b:Nat}{x0 x1 x2:Av}(h:K3 w b x0 x1 x2):b<w.heap.size:=(Ay h)
theorem K3.new(w:WD)(x0 x1 x2:Av):K3 (w.alloc (.cells #[x0,x1,x2] 77)) w.heap.size x0 x1 x2:=heap_alloc_new w _
theorem K3.below{w w':WD}{b:Nat}{x0 x1 x2:Av}(h:K3 w b x0 x1 x2)(hb:Below w.heap.size w w'):K3 w' b x0 x1 x2:=by show _=_;rw[hb.block _ h.lt];exact h
def E3(w:WD)(b:Nat)(x0 x1 x2:Av):Prop:=w.heap[b]?=some (.cells #[x0,x1,x2] 181 (0,0))
theorem E3.cs{w:WD}{b:Nat}{x0 x1 x2:Av}(h:E3 w b x0 x1 x2):w.cell? ⟨b,0,none⟩=some x0/\w.cell? ⟨b,1,none⟩=some x1/\w.cell? ⟨b,2,none⟩=some x2:=by have h':w.heap[b]?=_:=h;refine⟨?_,?_,?_⟩<;>(unfold World.cell?;rw[h'];rfl)
theorem E3.new(w:WD)(x0 x1 x2:Av):E3 (w.alloc (.cells #[x0,x1,x2] 181)) w.heap.size x0 x1 x2:=heap_alloc_new w _
structure aa7(B:Nat)(w:WD)(p:aI)(a:Option Addr)(cap:Nat)(wa:Option Addr)(wc:Nat)(bs:List Nat):Prop where
 pg:jZ B w p a cap
 win:∃rb o,wa=some ⟨rb,o,none⟩/\∀i (h:i<bs.length),w.cell? ⟨rb,o+i,none⟩=some (.map (some bs[i]))
 len:bs.length=p.length
 cap:bs.length<=wc
 nd:bs.Nodup
 lo:∀b∈bs,B<=b
theorem wC{k:TypeId}{w:WD}{b rb o:Nat}{v:Av}{m:Av->Option Av}(h:pY k w b m)(hc:w.cell? ⟨rb,o,none⟩=some v):rb≠b:=by rintro rfl;obtain⟨es,c,h1,_⟩:=h;unfold World.cell? at hc;rw[h1]at hc;cases hc
theorem cell_lt{w:WD}{rb o:Nat}{v:Av}(hc:w.cell? ⟨rb,o,none⟩=some v):rb<w.heap.size:=by
 apply Classical.byContradiction
 intro h;unfold World.cell? at hc;rw[Array.getElem?_eq_none (show w.heap.size<=rb by omega)]at hc;cases hc
