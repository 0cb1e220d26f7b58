import Derived.Test.YtlliliddljkbfaaGreatC8
set_option maxHeartbeats 64000000
set_option maxRecDepth 100000
namespace Go.Proofs.YtlliliddljkbfaaGreat
open Go.Proofs.Tryz (prog)
open Go.RowKit Sp
def Gg(a s:Nat):Nat:=(BitVec.ofNat 64 a &&& ~~~BitVec.ofNat 64 s).toNat
theorem GI(a s:Nat):Gg a s<18446744073709551616:=(BitVec.ofNat 64 a &&& ~~~BitVec.ofNat 64 s).isLt
theorem TN(a s:Nat):bits .andNot .u64 (a:Int) (s:Int)=(Gg a s:Int):=by have h:=GI a s;show IntKind.u64.wrap ((BitVec.ofInt 64 (a:Int) &&& ~~~BitVec.ofInt 64 (s:Int)).toNat:Int)=_;rw[BitVec.ofInt_natCast,BitVec.ofInt_natCast,IntKind.wrap_u64];show((Gg a s:Nat):Int)%_=_;omega
theorem wB(n:Nat)(hn:n<=30):2 ^ n<=1073741824:=show 2 ^ n<=2 ^ 30 from Nat.pow_le_pow_right Al hn
theorem ad6(n:Nat)(hn:n<=30):IntKind.u64.wrap (IntKind.u64.wrap (2 ^ n)-1)=((2 ^ n-1:Nat):Int):=by
 have h:=wB n hn;have h1:1<=2 ^ n:=Nat.one_le_two_pow;have e:(2:Int) ^ n=((2 ^ n:Nat):Int):=by simp
 rw[e];generalize(2 ^ n:Nat)=m at *;rw[IntKind.wrap_u64,IntKind.wrap_u64];omega
theorem ajN(v:Av)(w:WD):Calls prog 359 #[.agg #[v]] w fun ex w'=>ex=.returned (.int .u64 1)/\Below w.heap.size w w':=by have B1:Hid (Below w.heap.size w (w.alloc (.cells #[v] 66))):=Ax.alloc nl _;go_in;go_wp2_with fail;go_ret;exact⟨rfl,B1.o⟩
theorem TP(n:Nat)(a:Option Addr)(cap:Nat)(w:WD)(hn:n<=30):
  Calls prog 203 #[.agg #[.slice a n cap]] w fun ex w'=>ex=.returned (.int .u64 ((2 ^ n-1:Nat):Int))/\Below w.heap.size w w':=by
 have B1:Hid (Below w.heap.size w (w.alloc (.cells #[.slice a n cap] 66))):=Ax.alloc nl _;have hi:(n:Int)<=30:=oo;have HV:Hid (IntKind.u64.wrap (IntKind.u64.wrap (2 ^ n)-1)=((2 ^ n-1:Nat):Int)):=ad6 n hn;go_in;go_wp2_with fail;go_ret;exact⟨by rw[HV.o];rfl,B1.o⟩
theorem aa6(n:Nat)(a:Option Addr)(cap:Nat)(s:Nat)(w:WD)(hn:n<=30):
  Calls prog 368 #[.agg #[.slice a n cap],.int .u64 (s:Int)] w fun ex w'=>ex=.returned (.int .u64 (Gg (2 ^ n-1) s:Int))/\Below w.heap.size w w':=by
 have B1:Hid (Below w.heap.size w (w.alloc (.cells #[.slice a n cap] 66))):=Ax.alloc nl _;have HV:Hid (bits .andNot .u64 ((2 ^ n-1:Nat):Int) (s:Int)=(Gg (2 ^ n-1) s:Int)):=TN _ _;have hsz:=B1.o.size;go_in;go_wp2_with fail;refine pmb (TP n a cap _ hn) fun wq hwq=>?_;have B2:=hid (B1.o.trans (hwq.mono hsz));go_wp2_with fail;go_ret;exact⟨by rw[HV.o];rfl,B2.o⟩
def jq(t:Nat->Bool):Nat->Nat
 |0=>0
 |k+1=>if t k then jq t k ||| 2 ^ k else jq t k
theorem yC(t:Nat->Bool)(k e:Nat):(jq t k).testBit e=(decide (e<k)&&t e):=by
 induction k with
 |zero=>simp[jq]
 |succ k ih=>
  unfold jq;by_cases he:e=k
  .subst he;cases h:t e
   .simp[ih,h]
   .simp[ih,h,Nat.testBit_or]
  .have h2:decide (e<k+1)=decide (e<k):=by by_cases h:e<k<;>simp[h]<;>omega
   rw[h2];cases h:t k
   .simp[ih]
   .have:¬k=e:=fun h=>he h.symm;simp[ih,Nat.testBit_or,this]
theorem ag1(t:Nat->Bool)(k:Nat):jq t k<2 ^ k:=by
 apply Nat.lt_pow_two_of_testBit
 intro i hi;rw[yC];simp;omega
theorem uJ(t:Nat->Bool)(k:Nat)(hk:k<=30):jq t k<18446744073709551616:=by have:=ag1 t k;have:=wB k hk;omega
theorem Px(k:Nat)(hk:k<=30):IntKind.u64.wrap (2 ^ k)=((2 ^ k:Nat):Int):=by
 have h:=wB k hk;have e:(2:Int) ^ k=((2 ^ k:Nat):Int):=by simp
 rw[e];generalize(2 ^ k:Nat)=m at *;rw[IntKind.wrap_u64];omega
theorem ag2(t:Nat->Bool)(k:Nat)(hk:k<30)(h:t k=true):bits .or .u64 (jq t k:Int) (IntKind.u64.wrap (2 ^ k))=(jq t (k+1):Int):=by
 have h1:=uJ t k oo;have h2:=wB k oo;rw[Px k oo,bits_or_u64_nat _ _ h1 oo];conv=>rhs;unfold jq
 rw[if_pos h]
theorem rZ(n:Nat)(a:Option Addr)(cap:Nat)(g:Nat)(cs:Array Av)(t:Nat->Bool)(w:WD)(hn:n<=30)
  (hg:∀(args:Array Av) (w:WD),(callFunc g args).run prog w=.ok (.enter g args) w)
  (hf:∀i,i<n->∀w',Below w.heap.size w w'->Calls prog g (#[.int .i64 (i:Int)]++cs) w' fun ex w''=>ex=.returned (.bool (t i))/\Below w'.heap.size w' w''):
  Calls prog 259 #[.agg #[.slice a n cap],.func (.func g) #[] cs] w fun ex w'=>ex=.returned (.int .u64 (jq t n:Int))/\Below w.heap.size w w':=by
 have B1:Hid (Below w.heap.size w (w.alloc (.cells #[.slice a n cap] 66))):=Ax.alloc nl _;have hi:(n:Int)<=30:=oo;have HF:=hid hf;clear hf;go_in;go_wp2_with fail;generalize w.alloc (.cells #[.slice a n cap] 66)=w2 at *;go_loopg[5,10] n (fun g v5 v wr=>∃k:Nat,k+g=n/\v=.int .i64 (k:Int)/\v5=.int .u64 (jq t k:Int)/\Aside (Below w.heap.size w wr));case atStart=>exact⟨0,oo,rfl,rfl,B1.o⟩
 case round=>
  obtain⟨k,hk,rfl,rfl,hA⟩:=hrel;have HB:Hid (Below w.heap.size w wr):=hA.o;clear hA;have hsz:=HB.o.size;by_cases hlt:k<n
  .have h1:(k:Int)<(n:Int):=oo;have hc:=HF.o k hlt wr HB.o;go_wp2_with fail;refine hc.mono ?_;rintro e wq ⟨rfl,hwq⟩;have BQ:=hid (HB.o.trans (hwq.mono hsz));clear hwq hc;cases ht:t k
   .have HV:Hid (jq t k=jq t (k+1)):=by show _=_;rw[show jq t (k+1)=(if t k then jq t k ||| 2 ^ k else jq t k) from rfl,ht];rfl
    go_wp2_with fail;go_roundg(n-(k+1));case measure=>omega
    case rel=>exact⟨k+1,oo,by congr 1,by rw[HV.o],BQ.o⟩
   .have h30:(k:Int)<30:=oo;have HV:Hid (bits .or .u64 (jq t k:Int) (IntKind.u64.wrap (2 ^ k))=(jq t (k+1):Int)):=ag2 t k oo ht;go_wp2_with fail;go_roundg(n-(k+1));case measure=>omega
    case rel=>exact⟨k+1,oo,by congr 1,by rw[HV.o],BQ.o⟩
  .have h1:(n:Int)<=(k:Int):=oo;have HV:Hid (jq t k=jq t n):=by show _=_;rw[show k=n by omega]
   go_wp2_with fail;go_ret;exact⟨by rw[HV.o];rfl,HB.o⟩
theorem ad7(s:Nat){q:Int}(h:0<=q):hasB s q=s.testBit q.toNat:=by unfold hasB;rw[decide_eq_true h];rfl
theorem JO(s k:Nat):hasB s (k:Int)=s.testBit k:=by rw[ad7 s oo];rfl
def mD(p:aI)(s:Nat):Nat->Nat
 |0=>0
 |k+1=>if (hasB s (parentOf p k)||hasB (mD p s k) (parentOf p k))=true then mD p s k ||| 2 ^ k else mD p s k
theorem ag3(p:aI)(s:Nat)(k:Nat):mD p s k<2 ^ k:=by
 induction k with
 |zero=>simp[mD]
 |succ k ih=>
  have h2:2 ^ k<2 ^ (k+1):=Nat.pow_lt_pow_right Al oo;unfold mD;split
  .exact Nat.or_lt_two_pow oo h2
  .omega
structure jZ(B:Nat)(w:WD)(p:aI)(a:Option Addr)(cap:Nat):Prop where
 sg:SG wO 5 (fun b=>b<B) w (.slice a p.length cap) p
 lt:B<=w.heap.size
 pg:iL p=true
theorem jZ.below{B:Nat}{w w':WD}{p:aI}{a:Option Addr}{cap:Nat}{g:Nat}(h:jZ B w p a cap)(hb:Below g w w')(hg:B<=g):jZ B w' p a cap:=⟨h.sg.below wO.fair hb hg,Nat.le_trans h.lt hb.size,h.pg⟩
theorem jZ.alloc{B:Nat}{w:WD}{p:aI}{a:Option Addr}{cap:Nat}(h:jZ B w p a cap)(o:Obj):jZ B (w.alloc o) p a cap:=h.below (Ax.alloc nl o) h.lt
theorem jZ.len{B:Nat}{w:WD}{p:aI}{a:Option Addr}{cap:Nat}(h:jZ B w p a cap):1<=p.length/\p.length<=30:=by have:=h.pg;unfold iL at this;simp only[Bool.and_eq_true,decide_eq_true_eq]at this;omega
theorem jZ.par{B:Nat}{w:WD}{p:aI}{a:Option Addr}{cap:Nat}(h:jZ B w p a cap):Par p:=Ij h.pg
theorem jZ.at{B:Nat}{w:WD}{p:aI}{a:Option Addr}{cap:Nat}(h:jZ B w p a cap):∃g o,a=some ⟨g,o,none⟩/\g<B/\p.length<=cap/\∀i,i<p.length->w.cell? ⟨g,o+i*5,none⟩=some (.int .i64 (parentOf p i)):=by obtain⟨g,o,rfl,hL,hc⟩:=h.sg.here (by have:=h.len;rintro rfl;simp at this);obtain⟨_,_,hX⟩:=hL.el (i:=0) (by have:=h.len;omega);refine⟨g,o,rfl,hX.s,hc,fun i hi=>?_⟩;obtain⟨cv,av,hX⟩:=hL.el (i:=i) hi;rw[ng hi];exact hX.c0
theorem jZ.lo{B:Nat}{w:WD}{p:aI}{a:Option Addr}{cap:Nat}(h:jZ B w p a cap){i:Nat}(hi:i<p.length): -1<=parentOf p i/\parentOf p i<i:=by
 have h1:=h.par.lt i hi;refine⟨?_,h1⟩;have h2:=h.pg;unfold iL at h2;simp only[Bool.and_eq_true]at h2;have h3:∀(p:aI) (i k:Nat),gI i p=true->∀h:k<p.length,-1<=p[k].parent:=by
  intro p;induction p with
  |nil=>intro i k _ h;simp at h
  |cons x r ih=>
   intro i k he hk;unfold gI at he;simp only[Bool.and_eq_true]at he;cases k with
   |zero=>
    have h5:=he.1;rw[TM]at h5;simp only[Bool.and_eq_true]at h5;have h6:=h5.1;unfold Wi at h6;split at h6
    .simp at h6;simp;omega
    .simp at h6;simp;omega
   |succ k=>simpa using ih (i+1) k he.2 (by simpa using hk)
 rw[ng hi];exact h3 p 0 i h2.2 hi
theorem iR(w:WD)(v1:Av)(T1:TypeId)(v2:Av)(T2:TypeId):bU ((w.alloc (.cells #[v1] T1)).alloc (.cells #[v2] T2)) w.heap.size v1 T1/\bU ((w.alloc (.cells #[v1] T1)).alloc (.cells #[v2] T2)) (w.heap.size+1) v2 T2/\Below w.heap.size w ((w.alloc (.cells #[v1] T1)).alloc (.cells #[v2] T2)):=by refine⟨(bU.new w v1 T1).alloc _,?_,(Ax.alloc nl _).alloc Ab _⟩;have:=bU.new (w.alloc (.cells #[v1] T1)) v2 T2;simpa using this
theorem EO(p:aI)(s k:Nat)(hk:k<=30):mD p s k<18446744073709551616:=by have:=ag3 p s k;have:=wB k hk;omega
theorem Zc(p:aI)(s k:Nat)(hk:k<30)(h:(hasB s (parentOf p k)||hasB (mD p s k) (parentOf p k))=true):bits .or .u64 (mD p s k:Int) (IntKind.u64.wrap (2 ^ k))=(mD p s (k+1):Int):=by
 have h1:=EO p s k oo;have h2:=wB k oo;rw[Px k oo,bits_or_u64_nat _ _ h1 oo];conv=>rhs;unfold mD
 rw[if_pos h]
theorem ag4(p:aI)(s k:Nat)(h:(hasB s (parentOf p k)||hasB (mD p s k) (parentOf p k))=false):mD p s (k+1)=mD p s k:=by
 conv=>lhs;unfold mD
 rw[if_neg (by rw[h];simp)]
theorem ag5(B:Nat)(p:aI)(a:Option Addr)(cap s:Nat)(w:WD)(h:jZ B w p a cap)(hs:s<18446744073709551616):
  Calls prog 199 #[.agg #[.slice a p.length cap],.int .u64 (s:Int)] w fun ex w'=>ex=.returned (.int .u64 (mD p s p.length:Int))/\Below w.heap.size w w':=by
 have B0:Hid (Below w.heap.size w (w.alloc (.cells #[.slice a p.length cap] 66))):=Ax.alloc nl _;have V0:Hid (bU (w.alloc (.cells #[.slice a p.length cap] 66)) w.heap.size (.slice a p.length cap) 66):=bU.new _ _ _;have hlen:=h.len;have wX:Hid (jZ B (w.alloc (.cells #[.slice a p.length cap] 66)) p a cap):=h.alloc _;clear h;go_in;go_wp2_with fail;generalize w.alloc (.cells #[.slice a p.length cap] 66)=w0 at *;obtain⟨pb,Hpb⟩:=Nm w.heap.size;rw[Hpb.o]at B0 V0;rw[Hpb.o];have c0:=V0.o.c;go_loopg[5,11] p.length (fun g v6 v wr=>∃k:Nat,k+g=p.length/\v=.int .i64 (k:Int)/\v6=.int .u64 (mD p s k:Int)/\wr=w0);case atStart=>exact⟨0,oo,rfl,rfl,rfl⟩
 case round=>
  obtain⟨go,hgo⟩:∃go,go=gk:=⟨_,rfl⟩;obtain⟨k,hk,rfl,rfl,rfl⟩:=hrel;by_cases hlt:k<p.length
  .have h1:(k:Int)<(p.length:Int):=oo;obtain⟨g,o,rfl,hgB,hcap,hcs⟩:=wX.o.at;have c1:=hcs k hlt;have hq:=wX.o.lo hlt;obtain⟨q,Hq⟩:=Nm (parentOf p k);rw[Hq.o]at c1 hq;clear hcs;have h30:(k:Int)<30:=oo;have hbl:=EO p s k oo;go_wp2_with fail;refine(EN s q _ hs oo).mono ?_;obtain⟨b1,Hb1⟩:=Nm (hasB s q);rw[Hb1.o];rintro e wq ⟨rfl,hwq⟩;rw[hwq];clear hwq;cases b1
   .go_wp2_with fail;refine(EN (mD p s k) q _ hbl oo).mono ?_;obtain⟨b2,Hb2⟩:=Nm (hasB (mD p s k) q);rw[Hb2.o];rintro e wq ⟨rfl,hwq⟩;rw[hwq];clear hwq;cases b2
    .have HV:Hid (mD p s (k+1)=mD p s k):=ag4 p s k (by rw[Hq.o,Hb1.o,Hb2.o];rfl);go_wp2_with fail;go_roundg(go-1);case measure=>omega
     case rel=>exact⟨k+1,oo,by congr 1,by rw[HV.o],rfl⟩
    .have HV:Hid (bits .or .u64 (mD p s k:Int) (IntKind.u64.wrap (2 ^ k))=(mD p s (k+1):Int)):=Zc p s k oo (by rw[Hq.o,Hb1.o,Hb2.o];rfl);go_wp2_with fail;go_roundg(go-1);case measure=>omega
     case rel=>exact⟨k+1,oo,by congr 1,by rw[HV.o],rfl⟩
   .have HV:Hid (bits .or .u64 (mD p s k:Int) (IntKind.u64.wrap (2 ^ k))=(mD p s (k+1):Int)):=Zc p s k oo (by rw[Hq.o,Hb1.o];rfl);go_wp2_with fail;go_roundg(go-1);case measure=>omega
    case rel=>exact⟨k+1,oo,by congr 1,by rw[HV.o],rfl⟩
  .have h1:(p.length:Int)<=(k:Int):=oo;have HV:Hid (mD p s k=mD p s p.length):=by show _=_;rw[show k=p.length by omega]
   go_wp2_with fail;go_ret;exact⟨by rw[HV.o];rfl,by rw[Hpb.o];exact B0.o⟩
def Gh(x:Elem)(cv av:Av):Av:=.agg #[.int .i64 x.parent,.string x.tag,.string x.id,cv,av]
def TQ(p:aI)(t:Elem->Bool)(i:Nat):Bool:=match p[i]? with|none=>false|some x=>t x
theorem ad8{p:aI}{t:Elem->Bool}{i:Nat}(h:i<p.length):TQ p t i=t p[i]:=by unfold TQ;rw[List.getElem?_eq_getElem h]
theorem ad9(B:Nat)(p:aI)(a:Option Addr)(cap fb pb i:Nat)(g:Nat)(cs:Array Av)(t:Elem->Bool)(w:WD)(h:jZ B w p a cap)(hi:i<p.length)
  (hfb:bU w fb (.func (.func g) #[] cs) 170) (hpb:bU w pb (.slice a p.length cap) 66)
  (hg:∀(args:Array Av) (w:WD),(callFunc g args).run prog w=.ok (.enter g args) w)
  (hf:∀cv av w',Below w.heap.size w w'->SG eX 1 (fun b=>b<B) w' cv p[i].classes->SG qH 2 (fun b=>b<B) w' av p[i].attrs->Calls prog g (#[Gh p[i] cv av]++cs) w' fun ex w''=>ex=.returned (.bool (t p[i]))/\Below w'.heap.size w' w''):
  Calls prog 330 #[.int .i64 (i:Int),.pointer (some ⟨fb,0,none⟩),.pointer (some ⟨pb,0,none⟩)] w fun ex w'=>ex=.returned (.bool (TQ p t i))/\Below w.heap.size w w':=by
 rw[ad8 hi];have hlen:=h.len;obtain⟨g',o,rfl,hL,hcap⟩:=h.sg.here (by rintro rfl;simp at hi);obtain⟨cv,av,hX⟩:=hL.el (i:=i) hi;generalize p[i]=x at *;obtain⟨ca,cc,rfl⟩:=hX.cl.form;obtain⟨aa,ac,rfl⟩:=hX.at_.form;have hdr:Below w.heap.size w w.drew:=Ax.drew;have hc:=hf _ _ w.drew hdr (hX.cl.below eX.fair hdr h.lt) (hX.at_.below qH.fair hdr h.lt);have HC:Hid (Calls prog g (#[Gh x (.slice ca x.classes.length cc) (.slice aa x.attrs.length ac)]++cs) w.drew fun ex w'=>ex=.returned (.bool (t x))/\Below w.heap.size w.drew w'):=hc;obtain⟨c0,c1,c2,c3,c4⟩:_/\_/\_/\_/\_:=⟨hX.c0,hX.c1,hX.c2,hX.c3,hX.c4⟩;have d1:=hfb.c;have d2:=hpb.c;have h1:(i:Int)<(p.length:Int):=oo;have hlt:=h.lt;have hgB:g'<B:=hX.s;have hfl:=hfb.lt;have hpl:=hpb.lt;clear hc hf hX hL h hfb hpb;go_in;go_wp2_with fail
 refine wp_region_any Ao ?_;change wpAny _ _ _ _ _ _ _ (World.drew _);have sS:Hid ((fun wx:WD=>wx.cell? ⟨fb,0,none⟩=some (.func (.func g) #[] cs)/\wx.cell? ⟨pb,0,none⟩=some (.slice (some ⟨g',o,none⟩) p.length cap)/\wx.cell? ⟨g',o+i*5,none⟩=some (.int .i64 x.parent)/\wx.cell? ⟨g',o+i*5+1,none⟩=some (.string x.tag)/\wx.cell? ⟨g',o+i*5+2,none⟩=some (.string x.id)/\wx.cell? ⟨g',o+i*5+3,none⟩=some (.slice ca x.classes.length cc)/\wx.cell? ⟨g',o+i*5+4,none⟩=some (.slice aa x.attrs.length ac)) w.drew):=⟨d1,d2,c0,c1,c2,c3,c4⟩;clear d1 d2 c0 c1 c2 c3 c4
 refine wpAny_of_held (S:=(fun wx:WD=>wx.cell? ⟨fb,0,none⟩=some (.func (.func g) #[] cs)/\wx.cell? ⟨pb,0,none⟩=some (.slice (some ⟨g',o,none⟩) p.length cap)/\wx.cell? ⟨g',o+i*5,none⟩=some (.int .i64 x.parent)/\wx.cell? ⟨g',o+i*5+1,none⟩=some (.string x.tag)/\wx.cell? ⟨g',o+i*5+2,none⟩=some (.string x.id)/\wx.cell? ⟨g',o+i*5+3,none⟩=some (.slice ca x.classes.length cc)/\wx.cell? ⟨g',o+i*5+4,none⟩=some (.slice aa x.attrs.length ac))) _ _ _ _ ?_;refine dH 0 rfl sS.o (by intro w hSw;obtain⟨d1,d2,c0,c1,c2,c3,c4⟩:=hSw;exact gs) ?_;refine dH 1 rfl sS.o (by intro w hSw;obtain⟨d1,d2,c0,c1,c2,c3,c4⟩:=hSw;exact gs) ?_;refine dH 2 rfl sS.o (by intro w hSw;obtain⟨d1,d2,c0,c1,c2,c3,c4⟩:=hSw;exact gs) ?_
 refine dH 3 rfl sS.o (by intro w hSw;obtain⟨d1,d2,c0,c1,c2,c3,c4⟩:=hSw;exact gs) ?_;refine dH 4 rfl sS.o (by intro w hSw;obtain⟨d1,d2,c0,c1,c2,c3,c4⟩:=hSw;exact gs) ?_;refine dH 5 rfl sS.o (by intro w hSw;obtain⟨d1,d2,c0,c1,c2,c3,c4⟩:=hSw;exact gs) ?_;refine iW 6 fun K hK=>?_;go_simp;refine HC.o.mono ?_;rintro e wq ⟨rfl,hwq⟩;have BQ:Hid (Below w.heap.size w wq):=(Ax.drew).trans hwq
 have HSQ:Hid ((fun wx:WD=>wx.cell? ⟨fb,0,none⟩=some (.func (.func g) #[] cs)/\wx.cell? ⟨pb,0,none⟩=some (.slice (some ⟨g',o,none⟩) p.length cap)/\wx.cell? ⟨g',o+i*5,none⟩=some (.int .i64 x.parent)/\wx.cell? ⟨g',o+i*5+1,none⟩=some (.string x.tag)/\wx.cell? ⟨g',o+i*5+2,none⟩=some (.string x.id)/\wx.cell? ⟨g',o+i*5+3,none⟩=some (.slice ca x.classes.length cc)/\wx.cell? ⟨g',o+i*5+4,none⟩=some (.slice aa x.attrs.length ac)) wq):=by obtain⟨d1,d2,c0,c1,c2,c3,c4⟩:=sS.o;have hg':g'<w.heap.size:=oo;have eg:∀k,wq.cell? ⟨g',k,none⟩=w.drew.cell? ⟨g',k,none⟩:=fun k=>BQ.o.cell (p:=⟨g',k,none⟩) hg';refine⟨(BQ.o.cell (p:=⟨fb,0,none⟩) hfl).trans d1,(BQ.o.cell (p:=⟨pb,0,none⟩) hpl).trans d2,(eg _).trans c0,(eg _).trans c1,(eg _).trans c2,(eg _).trans c3,(eg _).trans c4⟩
 clear hwq;refine hK.o _ _ HSQ.o (fun _=>?_);clear hK K;refine dH 7 rfl HSQ.o (fun _ _=>gs) ?_;refine wpAnyH_done Ao ?_ _;go_wp2_with fail;go_ret;exact⟨rfl,BQ.o⟩
theorem GK(B:Nat)(p:aI)(a:Option Addr)(cap:Nat)(g:Nat)(cs:Array Av)(t:Elem->Bool)(w:WD)(h:jZ B w p a cap)
  (hg:∀(args:Array Av) (w:WD),(callFunc g args).run prog w=.ok (.enter g args) w)
  (hf:∀i,(hi:i<p.length)->∀cv av w',Below w.heap.size w w'->SG eX 1 (fun b=>b<B) w' cv p[i].classes->SG qH 2 (fun b=>b<B) w' av p[i].attrs->Calls prog g (#[Gh p[i] cv av]++cs) w' fun ex w''=>ex=.returned (.bool (t p[i]))/\Below w'.heap.size w' w''):
  Calls prog 328 #[.agg #[.slice a p.length cap],.func (.func g) #[] cs] w fun ex w'=>ex=.returned (.int .u64 (jq (TQ p t) p.length:Int))/\Below w.heap.size w w':=by
 have hmf:=nI;have hlen:=h.len;have hBw:=h.lt;obtain⟨V1,V2,hb⟩:=iR w (.slice a p.length cap) 66 (.func (.func g) #[] cs) 170;have P2:=hid (h.below hb hBw);have c1:=V1.c;have c2:=V2.c;have H1:=hid V1;have H2:=hid V2;have B2:=hid hb
 have HF:=hid hf;have HG:=hid hg;clear V1 V2 hb h hf hg;go_in;go_wp2_with fail;generalize(w.alloc (.cells #[.slice a p.length cap] 66)).alloc (.cells #[.func (.func g) #[] cs] 170)=w2 at *;refine(rZ p.length a cap _ _ (TQ p t) w2 hlen.2 (fun _ _=>rfl) ?_).mono ?_
 .intro i hi w' hb';refine ad9 B p a cap _ _ i g cs t w' (P2.o.below hb' P2.o.lt) hi (H2.o.below hb' H2.o.lt) (H1.o.below hb' H1.o.lt) HG.o ?_;intro cv av w'' aea hcv hav;have hb2:Below w.heap.size w w':=AC B2.o hb';exact HF.o i hi cv av w'' (hb2.trans (aea.mono hb2.size)) hcv hav
 .rintro e wq ⟨rfl,hwq⟩;have B3:=hid (AC B2.o hwq);clear hwq;go_wp2_with fail;go_ret;exact⟨rfl,B3.o⟩
def onS(p:aI)(k:Nat)(nm:BY):Nat:=
 if k=116 then(if nm=aA then 2 ^ p.length-1 else jq (TQ p (fun x=>decide (x.tag=nm))) p.length)
 else if k=35 then jq (TQ p (fun x=>decide (x.id=nm))) p.length
 else jq (TQ p (fun x=>x.classes.contains nm)) p.length
def okP(k:Nat):Prop:=k=116\/k=35\/k=46
theorem ajO(p:aI)(k:Nat)(nm:BY)(hp:p.length<=30):onS p k nm<18446744073709551616:=by
 unfold onS;have:=wB p.length hp;repeat' split
 all_goals first|omega|exact uJ _ _ hp
theorem ag6(B:Nat)(p:aI)(a:Option Addr)(cap:Nat)(w:WD)(h:jZ B w p a cap):
  Calls prog 331 #[.agg #[],.agg #[.slice a p.length cap]] w fun ex w'=>ex=.returned (.int .u64 ((2 ^ p.length-1:Nat):Int))/\Below w.heap.size w w':=by
 have hlen:=h.len;clear h;go_in;go_wp2_with fail;refine pmb (TP p.length a cap _ hlen.2) fun wq hwq=>?_;have B3:Hid (Below w.heap.size w wq):=by
  first
   |exact hwq
   |exact(Ax.alloc nl _).trans (hwq.mono Ab)
   |exact((Ax.alloc nl _).alloc Ab _).trans (hwq.mono An)
 clear hwq;go_wp2_with fail;go_ret;exact⟨rfl,B3.o⟩
theorem ajP(x:Elem)(ca aa:Option Addr)(cl cc al ac:Nat)(nm:BY)(tb:Nat)(w:WD)(hb:bU w tb (.string nm) 309):
  Calls prog 329 #[Gh x (.slice ca cl cc) (.slice aa al ac),.pointer (some ⟨tb,0,none⟩)] w fun ex w'=>ex=.returned (.bool (decide (x.tag=nm)))/\Below w.heap.size w w':=by
 unfold Gh;have X2:Hid (XE (w.alloc (.cells #[.int .i64 x.parent,.string x.tag,.string x.id,.slice ca cl cc,.slice aa al ac] 35)) w.heap.size x (.slice ca cl cc) (.slice aa al ac)):=heap_alloc_new w _;have B2:Hid (Below w.heap.size w (w.alloc (.cells #[.int .i64 x.parent,.string x.tag,.string x.id,.slice ca cl cc,.slice aa al ac] 35))):=Ax.alloc nl _;have c0:=(hb.alloc (.cells #[.int .i64 x.parent,.string x.tag,.string x.id,.slice ca cl cc,.slice aa al ac] 35)).c;obtain⟨d0,d1,d2,d3,d4⟩:=X2.o.cs;have HV:Hid ((x.tag.toList==nm.toList)=decide (x.tag=nm)):=bytes_beq _ _;go_in;go_wp2_with fail;go_ret;exact⟨aC HV.o,B2.o⟩
theorem alM(x:Elem)(ca aa:Option Addr)(cl cc al ac:Nat)(nm:BY)(tb:Nat)(w:WD)(hb:bU w tb (.string nm) 332):
  Calls prog 337 #[Gh x (.slice ca cl cc) (.slice aa al ac),.pointer (some ⟨tb,0,none⟩)] w fun ex w'=>ex=.returned (.bool (decide (x.id=nm)))/\Below w.heap.size w w':=by
 unfold Gh;have X2:Hid (XE (w.alloc (.cells #[.int .i64 x.parent,.string x.tag,.string x.id,.slice ca cl cc,.slice aa al ac] 35)) w.heap.size x (.slice ca cl cc) (.slice aa al ac)):=heap_alloc_new w _;have B2:Hid (Below w.heap.size w (w.alloc (.cells #[.int .i64 x.parent,.string x.tag,.string x.id,.slice ca cl cc,.slice aa al ac] 35))):=Ax.alloc nl _;have c0:=(hb.alloc (.cells #[.int .i64 x.parent,.string x.tag,.string x.id,.slice ca cl cc,.slice aa al ac] 35)).c;obtain⟨d0,d1,d2,d3,d4⟩:=X2.o.cs;have HV:Hid ((x.id.toList==nm.toList)=decide (x.id=nm)):=bytes_beq _ _;go_in;go_wp2_with fail;go_ret;exact⟨aC HV.o,B2.o⟩
theorem aeb(B:Nat)(x:Elem)(cv:Av)(aa:Option Addr)(al ac:Nat)(nm:BY)(tb:Nat)(w:WD)(hb:bU w tb (.string nm) 333)(hcv:SG eX 1 (fun b=>b<B) w cv x.classes)(hB:B<=w.heap.size):
  Calls prog 341 #[Gh x cv (.slice aa al ac),.pointer (some ⟨tb,0,none⟩)] w fun ex w'=>ex=.returned (.bool (x.classes.contains nm))/\Below w.heap.size w w':=by
 obtain⟨ca,cc,rfl⟩:=hcv.form;unfold Gh;have X2:Hid (XE (w.alloc (.cells #[.int .i64 x.parent,.string x.tag,.string x.id,.slice ca x.classes.length cc,.slice aa al ac] 35)) w.heap.size x (.slice ca x.classes.length cc) (.slice aa al ac)):=heap_alloc_new w _;have B2:Hid (Below w.heap.size w (w.alloc (.cells #[.int .i64 x.parent,.string x.tag,.string x.id,.slice ca x.classes.length cc,.slice aa al ac] 35))):=Ax.alloc nl _;have c0:=(hb.alloc (.cells #[.int .i64 x.parent,.string x.tag,.string x.id,.slice ca x.classes.length cc,.slice aa al ac] 35)).c;obtain⟨d0,d1,d2,d3,d4⟩:=X2.o.cs;have HS:=hid (hcv.below eX.fair B2.o hB);clear hcv;go_in;go_wp2_with fail
 refine pmb (YL _ x.classes _ nm _ HS.o) fun wq hwq=>?_;rw[hwq];clear hwq;go_wp2_with fail;go_ret;exact⟨rfl,B2.o⟩
theorem ajQ(B:Nat)(p:aI)(a:Option Addr)(cap:Nat)(nm:BY)(w:WD)(h:jZ B w p a cap):
  Calls prog 325 #[.agg #[.string nm],.agg #[.slice a p.length cap]] w fun ex w'=>ex=.returned (.int .u64 (jq (TQ p (fun x=>decide (x.tag=nm))) p.length:Int))/\Below w.heap.size w w':=by
 have hmf:=nI;have hBw:=h.lt;obtain⟨V1,V2,hb⟩:=iR w (.string nm) 309 (.slice a p.length cap) 66;have P2:=hid (h.below hb hBw);have c1:=V1.c;have c2:=V2.c;have H1:=hid V1;have B2:=hid hb;clear V1 V2 hb h;go_in;go_wp2_with fail;generalize(w.alloc (.cells #[.string nm] 309)).alloc (.cells #[.slice a p.length cap] 66)=w2 at *;refine(GK B p a cap _ _ (fun x=>decide (x.tag=nm)) w2 P2.o (fun _ _=>rfl) ?_).mono ?_
 .intro i hi cv av w' hb' hcv hav;obtain⟨ca,cc,rfl⟩:=hcv.form;obtain⟨aa,ac,rfl⟩:=hav.form;exact ajP _ _ _ _ _ _ _ nm _ w' (H1.o.below hb' H1.o.lt)
 .rintro e wq ⟨rfl,hwq⟩;have B3:=hid (AC B2.o hwq);clear hwq;go_wp2_with fail;go_ret;exact⟨rfl,B3.o⟩
theorem alN(B:Nat)(p:aI)(a:Option Addr)(cap:Nat)(nm:BY)(w:WD)(h:jZ B w p a cap):
  Calls prog 334 #[.agg #[.string nm],.agg #[.slice a p.length cap]] w fun ex w'=>ex=.returned (.int .u64 (jq (TQ p (fun x=>decide (x.id=nm))) p.length:Int))/\Below w.heap.size w w':=by
 have hmf:=nI;have hBw:=h.lt;obtain⟨V1,V2,hb⟩:=iR w (.string nm) 332 (.slice a p.length cap) 66;have P2:=hid (h.below hb hBw);have c1:=V1.c;have c2:=V2.c;have H1:=hid V1;have B2:=hid hb;clear V1 V2 hb h;go_in;go_wp2_with fail;generalize(w.alloc (.cells #[.string nm] 332)).alloc (.cells #[.slice a p.length cap] 66)=w2 at *;refine(GK B p a cap _ _ (fun x=>decide (x.id=nm)) w2 P2.o (fun _ _=>rfl) ?_).mono ?_
 .intro i hi cv av w' hb' hcv hav;obtain⟨ca,cc,rfl⟩:=hcv.form;obtain⟨aa,ac,rfl⟩:=hav.form;exact alM _ _ _ _ _ _ _ nm _ w' (H1.o.below hb' H1.o.lt)
 .rintro e wq ⟨rfl,hwq⟩;have B3:=hid (AC B2.o hwq);clear hwq;go_wp2_with fail;go_ret;exact⟨rfl,B3.o⟩
theorem aec(B:Nat)(p:aI)(a:Option Addr)(cap:Nat)(nm:BY)(w:WD)(h:jZ B w p a cap):
  Calls prog 338 #[.agg #[.string nm],.agg #[.slice a p.length cap]] w fun ex w'=>ex=.returned (.int .u64 (jq (TQ p (fun x=>x.classes.contains nm)) p.length:Int))/\Below w.heap.size w w':=by
 have hmf:=nI;have hBw:=h.lt;obtain⟨V1,V2,hb⟩:=iR w (.string nm) 333 (.slice a p.length cap) 66;have P2:=hid (h.below hb hBw);have c1:=V1.c;have c2:=V2.c;have H1:=hid V1;have B2:=hid hb;clear V1 V2 hb h;go_in;go_wp2_with fail;generalize(w.alloc (.cells #[.string nm] 333)).alloc (.cells #[.slice a p.length cap] 66)=w2 at *;refine(GK B p a cap _ _ (fun x=>x.classes.contains nm) w2 P2.o (fun _ _=>rfl) ?_).mono ?_
 .intro i hi cv av w' hb' hcv hav;obtain⟨aa,ac,rfl⟩:=hav.form;exact aeb B _ _ _ _ _ nm _ w' (H1.o.below hb' H1.o.lt) hcv (Nat.le_trans P2.o.lt hb'.size)
 .rintro e wq ⟨rfl,hwq⟩;have B3:=hid (AC B2.o hwq);clear hwq;go_wp2_with fail;go_ret;exact⟨rfl,B3.o⟩
theorem ag7 (W : WD) : (method 503 311 (.agg #[]) "rinse/selectors.on").run prog W = .ok (331, .agg #[]) W := by kernel_rfl
theorem ajR (nm : BY) (W : WD) : (method 503 309 (.agg #[.string nm]) "rinse/selectors.on").run prog W = .ok (325, .agg #[.string nm]) W := by kernel_rfl
theorem alO (nm : BY) (W : WD) : (method 503 332 (.agg #[.string nm]) "rinse/selectors.on").run prog W = .ok (334, .agg #[.string nm]) W := by kernel_rfl
theorem aed (nm : BY) (W : WD) : (method 503 333 (.agg #[.string nm]) "rinse/selectors.on").run prog W = .ok (338, .agg #[.string nm]) W := by kernel_rfl
theorem ag8(B:Nat)(p:aI)(a:Option Addr)(cap:Nat)(k:Nat)(nm how v:BY)(lv:Av)(pl:Nat)(w:WD)(h:jZ B w p a cap)(hk:okP k):
  ∃ T u K rcv, fE k nm how v lv pl = .iface T u ∧ (∀ W : WD, (method 503 T u "rinse/selectors.on").run prog W = .ok (K, rcv) W) ∧ (∀ (args : Array Av) (W : WD), (callFunc K args).run prog W = .ok (.enter K args) W) ∧
   ∀w',Below w.heap.size w w'->Calls prog K #[rcv,.agg #[.slice a p.length cap]] w' fun e w''=>e=.returned (.int .u64 (onS p k nm:Int))/\Below w'.heap.size w' w'':=by
 unfold fE onS;rcases hk with rfl|rfl|rfl
 .rw[if_pos rfl,if_pos rfl];by_cases e:nm=aA
  .rw[if_pos e,if_pos e];exact⟨_,_,_,_,rfl,ag7,fun _ _=>rfl,fun w' hb=>ag6 B p a cap w' (h.below hb h.lt)⟩
  .rw[if_neg e,if_neg e];exact⟨_,_,_,_,rfl,ajR nm,fun _ _=>rfl,fun w' hb=>ajQ B p a cap nm w' (h.below hb h.lt)⟩
 .rw[if_neg (by decide),if_pos rfl,if_neg (by decide),if_pos rfl];exact⟨_,_,_,_,rfl,alO nm,fun _ _=>rfl,fun w' hb=>alN B p a cap nm w' (h.below hb h.lt)⟩
 .rw[if_neg (by decide),if_neg (by decide),if_pos rfl,if_neg (by decide),if_neg (by decide)];exact⟨_,_,_,_,rfl,aed nm,fun _ _=>rfl,fun w' hb=>aec B p a cap nm w' (h.below hb h.lt)⟩
theorem LG.stq{C:wV Simple}{S:Nat->Prop}{w:WD}{l:List Step}{g o i:Nat}(h:LG (fO C) 2 S w l g o)(hi:i<l.length):∃av,w.cell? ⟨g,o+i*2,none⟩=some (.int .i64 (sG l[i].1))/\w.cell? ⟨g,o+i*2+1,none⟩=some av/\SG C 1 S w av l[i].2/\S g:=by
 obtain⟨h0,cs,⟨av,rfl,hs⟩,hc⟩:=h.at l g o i hi;refine⟨av,?_,?_,hs,h0⟩
 .have:=hc 0 _ rfl;rwa[Nat.add_zero]at this
 .exact hc 1 _ rfl
theorem LG.prq{f:Nat}{S:Nat->Prop}{w:WD}{l:List Simple}{g o i:Nat}(h:LG (aQ f) 1 S w l g o)(hi:i<l.length):∃pv,w.cell? ⟨g,o+i,none⟩=some pv/\aQ f S w l[i] [pv]/\S g:=by
 obtain⟨h0,cs,hC,hc⟩:=h.at l g o i hi;have hl:=aQ.sized f _ _ _ _ hC;obtain⟨pv,rfl⟩:∃pv,cs=[pv]:=by
  match cs,hl with
  |[pv],_=>exact⟨pv,rfl⟩
 refine⟨pv,?_,hC,h0⟩;have:=hc 0 _ rfl;rw[Nat.mul_one,Nat.add_zero]at this;exact this
def Vj(w:WD)(b:Nat)(x0 x1:Av):Prop:=w.heap[b]?=some (.cells #[x0,x1] 219 (0,0))
theorem Vj.cs{w:WD}{b:Nat}{x0 x1:Av}(h:Vj w b x0 x1):w.cell? ⟨b,0,none⟩=some x0/\w.cell? ⟨b,1,none⟩=some x1:=by have h':w.heap[b]?=_:=h;refine⟨?_,?_⟩<;>(unfold World.cell?;rw[h'];rfl)
theorem Vj.lt{w:WD}{b:Nat}{x0 x1:Av}(h:Vj w b x0 x1):b<w.heap.size:=(Ay h)
theorem Vj.new(w:WD)(x0 x1:Av):Vj (w.alloc (.cells #[x0,x1] 219)) w.heap.size x0 x1:=heap_alloc_new w _
theorem Vj.below{w w':WD}{b:Nat}{x0 x1:Av}(h:Vj w b x0 x1)(hb:Below w.heap.size w w'):Vj w' b x0 x1:=by show _=_;rw[hb.block _ h.lt];exact h
def okS:Simple->Prop
 |.mk k _ _ _ _ _=>okP k
def okA(l:List Simple):Prop:=∀s∈l,okS s
def okC(l:List Step):Prop:=∀st∈l,(st.1=0\/st.1=32)/\okA st.2
theorem TR(s t:Nat)(h:s<18446744073709551616):s &&& t<18446744073709551616:=Nat.lt_of_le_of_lt Nat.and_le_left h
abbrev lU:=Nat×Nat×Nat
def Bg(a b:lU):lU:=(a.1+b.1,a.2.1+b.2.1,a.2.2+b.2.2)
def sumW(a:lU):Nat:=a.1+a.2.1+a.2.2
def cnC:List Step->Nat
 |[]=>0
 |(_,all)::r=>all.length+cnC r
theorem ag9(k:Nat)(nm:BY):sumW (pwt k nm)<=1:=by
 unfold pwt;repeat' split
 all_goals(unfold sumW;decide)
theorem sum_add(a b:lU):sumW (Bg a b)=sumW a+sumW b:=by unfold sumW Bg;simp only;omega
def W3n(w:WD)(b:Nat)(x:lU):Prop:=W3 w b (x.1:Int) (x.2.1:Int) (x.2.2:Int)
theorem W3.below{w w':WD}{b:Nat}{x y z:Int}{g:Nat}(h:W3 w b x y z)(hb:Below g w w')(hg:b<g):W3 w' b x y z:=by unfold W3;rw[hb.block _ hg];exact h
theorem bQ(w:WD)(b k:Nat)(cs:Array Av)(T:TypeId)(fz:Nat×Nat)(u:Av)(h:w.heap[b]?=some (.cells cs T fz)):(w.setCell ⟨b,k,none⟩ u).heap[b]?=some (.cells (cs.setIfInBounds k u) T fz):=by unfold World.setCell;simp[Array.getElem?_modify,h]
theorem W3.set(w:WD)(b:Nat)(x y z x' y' z':Int)(h:W3 w b x y z):W3 (((w.setCell ⟨b,0,none⟩ (.int .i64 x')).setCell ⟨b,1,none⟩ (.int .i64 y')).setCell ⟨b,2,none⟩ (.int .i64 z')) b x' y' z':=by have h1:=bQ w b 0 _ _ _ (.int .i64 x') h;have h2:=bQ _ b 1 _ _ _ (.int .i64 y') h1;exact bQ _ b 2 _ _ _ (.int .i64 z') h2
theorem W3.other(w:WD)(b c:Nat)(x y z:Int)(x' y' z':Av)(h:W3 w b x y z)(hne:b≠c):W3 (((w.setCell ⟨c,0,none⟩ x').setCell ⟨c,1,none⟩ y').setCell ⟨c,2,none⟩ z') b x y z:=by unfold W3;rw[Below.heap_setCell _ _ _ _ hne,Below.heap_setCell _ _ _ _ hne,Below.heap_setCell _ _ _ _ hne];exact h
structure Bh(w:WD)(x:lU)(wr:WD):Prop where
 res:W3 wr w.heap.size 0 0 0
 all:W3n wr (w.heap.size+1) x
 below:Below w.heap.size w wr
 size:w.heap.size+2<=wr.heap.size
theorem Bh.next{w:WD}{x:lU}{wr w':WD}(h:Bh w x wr)(hb:Below wr.heap.size wr w'):Bh w x w':=⟨h.res.below hb h.res.lt,W3.below h.all hb (W3.lt h.all),h.below.trans (hb.mono h.below.size),Nat.le_trans h.size hb.size⟩
theorem Bh.drew{w:WD}{x:lU}{wr:WD}(h:Bh w x wr):Bh w x wr.drew:=⟨h.res,h.all,h.below.drew,h.size⟩
theorem Bh.set{w:WD}{x:lU}{wr:WD}(h:Bh w x wr)(y:lU):Bh w y (((wr.setCell ⟨w.heap.size+1,0,none⟩ (.int .i64 (y.1:Int))).setCell ⟨w.heap.size+1,1,none⟩ (.int .i64 (y.2.1:Int))).setCell ⟨w.heap.size+1,2,none⟩ (.int .i64 (y.2.2:Int))):=⟨W3.other _ _ _ _ _ _ _ _ _ h.res oo,W3.set _ _ _ _ _ _ _ _ h.all,jR h.below oo _ _ _,by simpa[World.setCell]using h.size⟩
theorem Bh.set2{w:WD}{x:lU}{wr:WD}(h:Bh w x wr)(y t:lU):Bh w (Bg y t) (((wr.setCell ⟨w.heap.size+1,0,none⟩ (.int .i64 ((y.1:Int)+(t.1:Int)))).setCell ⟨w.heap.size+1,1,none⟩ (.int .i64 ((y.2.1:Int)+(t.2.1:Int)))).setCell ⟨w.heap.size+1,2,none⟩ (.int .i64 ((y.2.2:Int)+(t.2.2:Int)))):=h.set (Bg y t)
abbrev Zd:=Nat×lU
def clC(x:Zd):List Av:=[.int .u64 (x.1:Int),.int .i64 (x.2.1:Int),.int .i64 (x.2.2.1:Int),.int .i64 (x.2.2.2:Int)]
def DJ:wV Zd:=fun _ _ x cs=>cs=clC x
theorem DJ.fair:Fair DJ:=fun _ _ _ _ _ _ _ _ h=>h
theorem DJ.sized:ug DJ 4:=by rintro S w x cs rfl;rfl
def okL(l:bY):Prop:=∀cx∈l,okC cx/\cnC cx<=1000000
theorem aee:∃i,prog.info? 248=some i/\i.zero=some (.agg #[.int .u64 0,.int .i64 0,.int .i64 0,.int .i64 0])/\i.size=4/\i.bytes=32:=info_parts Ao
theorem LG.cxq{f:Nat}{S:Nat->Prop}{w:WD}{l:bY}{g o i:Nat}(h:LG (AA (aQ f)) 1 S w l g o)(hi:i<l.length):∃cv,w.cell? ⟨g,o+i,none⟩=some cv/\SG (fO (aQ f)) 2 S w cv l[i]/\S g:=by obtain⟨h0,cs,⟨cv,rfl,hs⟩,hc⟩:=h.at l g o i hi;refine⟨cv,?_,hs,h0⟩;have:=hc 0 _ rfl;rw[Nat.mul_one,Nat.add_zero]at this;exact this
theorem ajS{a b:Nat}{w:WD}(h:a<=b):∀g,oD b w g->oD a w g:=fun _ hg=>⟨Nat.le_trans h hg.1,hg.2⟩
def JQ(a b:lU):Int:=Pn (a.1:Int) (a.2.1:Int) (a.2.2:Int) (b.1:Int) (b.2.1:Int) (b.2.2:Int)
def NC(e:Nat):lU->Bool->List Zd->lU×Bool
 |f,ok,[]=>(f,ok)
 |f,ok,x::r=>if hasB x.1 (e:Int)=true then NC e (if 0<JQ x.2 f then x.2 else f) true r else NC e f ok r
theorem aef(e:Nat)(f:lU)(ok:Bool){l:List Zd}{i:Nat}(h:i<l.length):NC e f ok (l.drop i)=if hasB l[i].1 (e:Int)=true then NC e (if 0<JQ l[i].2 f then l[i].2 else f) true (l.drop (i+1)) else NC e f ok (l.drop (i+1)):=by rw[List.drop_eq_getElem_cons h];rfl
def C4(w:WD)(b:Nat)(x:Zd):Prop:=w.heap[b]?=some (.cells #[.int .u64 (x.1:Int),.int .i64 (x.2.1:Int),.int .i64 (x.2.2.1:Int),.int .i64 (x.2.2.2:Int)] 248 (0,0))
theorem C4.cs{w:WD}{b:Nat}{x:Zd}(h:C4 w b x):w.cell? ⟨b,0,none⟩=some (.int .u64 (x.1:Int))/\w.cell? ⟨b,1,none⟩=some (.int .i64 (x.2.1:Int))/\w.cell? ⟨b,2,none⟩=some (.int .i64 (x.2.2.1:Int))/\w.cell? ⟨b,3,none⟩=some (.int .i64 (x.2.2.2:Int)):=by have h':w.heap[b]?=_:=h;refine⟨?_,?_,?_,?_⟩<;>(unfold World.cell?;rw[h'];rfl)
theorem C4.lt{w:WD}{b:Nat}{x:Zd}(h:C4 w b x):b<w.heap.size:=(Ay h)
theorem C4.new(w:WD)(x:Zd):C4 (w.alloc (.cells #[.int .u64 (x.1:Int),.int .i64 (x.2.1:Int),.int .i64 (x.2.2.1:Int),.int .i64 (x.2.2.2:Int)] 248)) w.heap.size x:=heap_alloc_new w _
theorem C4.below{w w':WD}{b:Nat}{x:Zd}(h:C4 w b x)(hb:Below w.heap.size w w'):C4 w' b x:=by show _=_;rw[hb.block _ h.lt];exact h
theorem LG.clq{S:Nat->Prop}{w:WD}{l:List Zd}{g o i:Nat}(h:LG DJ 4 S w l g o)(hi:i<l.length):(w.cell? ⟨g,o+i*4,none⟩=some (.int .u64 (l[i].1:Int))/\w.cell? ⟨g,o+i*4+1,none⟩=some (.int .i64 (l[i].2.1:Int))/\w.cell? ⟨g,o+i*4+2,none⟩=some (.int .i64 (l[i].2.2.1:Int))/\w.cell? ⟨g,o+i*4+3,none⟩=some (.int .i64 (l[i].2.2.2:Int)))/\S g:=by obtain⟨h0,cs,rfl,hc⟩:=h.at l g o i hi;refine⟨⟨?_,hc 1 _ rfl,hc 2 _ rfl,hc 3 _ rfl⟩,h0⟩;have:=hc 0 _ rfl;rwa[Nat.add_zero]at this
theorem XD(B:Nat)(cl:List Zd)(v:Av)(e:Nat)(w:WD)(h:SG DJ 4 (fun b=>b<B) w v cl)(hB:B<=w.heap.size)(he:e<64)(hs:∀x∈cl,x.1<18446744073709551616):
  Calls prog 94 #[v,.int .i64 (e:Int)] w fun ex w'=>ex=.returned (.tuple #[Pq (NC e (0,0,0) false cl).1,.bool (NC e (0,0,0) false cl).2])/\Below w.heap.size w w':=by
 have hl:=h.len;have I0:Hid (Bh w (0,0,0) ((w.alloc (.cells #[.int .i64 0,.int .i64 0,.int .i64 0] 177)).alloc (.cells #[.int .i64 0,.int .i64 0,.int .i64 0] 177))):=⟨(W3.new w 0 0 0).alloc _,(wQ w _).o,(Gf w _).o,by simp⟩
 have HS:=hid h;have HL:=hid hs;obtain⟨ca,cc,rfl⟩:=h.form;clear h hs;obtain⟨R,HR⟩:=Nm (NC e (0,0,0) false cl);rw[HR.o];have he1:(e:Int)<64:=oo;go_in;go_wp2_with fail;generalize(w.alloc (.cells #[.int .i64 0,.int .i64 0,.int .i64 0] 177)).alloc (.cells #[.int .i64 0,.int .i64 0,.int .i64 0] 177)=w0 at *;go_loopg[7,12] cl.length (fun gg v7 v12 wr=>∃(x:lU) (ok:Bool) (i:Nat),v7=.bool ok/\v12=.int .i64 (i:Int)/\i+gg=cl.length/\Aside (NC e x ok (cl.drop i)=R/\Bh w x wr));case atStart=>exact⟨(0,0,0),false,0,rfl,rfl,oo,HR.o,I0.o⟩
 case round=>
  obtain⟨go,hgo⟩:∃go,go=gk:=⟨_,rfl⟩;obtain⟨x,ok,i,rfl,rfl,hi,hA⟩:=hrel;have HC:Hid (NC e x ok (cl.drop i)=R/\Bh w x wr):=hA.o;clear hA;have hsr:=HC.o.2.below.size;by_cases hlt:i<cl.length
  .have h1:(i:Int)<(cl.length:Int):=oo;obtain⟨g,o,rfl,hL,hcap⟩:=(HS.o.below DJ.fair HC.o.2.below hB).here (by rintro rfl;simp at hlt);obtain⟨⟨d0,d1,d2,d3⟩,hgB⟩:=hL.clq (i:=i) hlt;have hys:=HL.o cl[i] (List.getElem_mem hlt);have HD:=aef e x ok hlt;generalize cl[i]=y at *;have Ze:=hid (HD.symm.trans HC.o.1);clear hL HD;have T2:Hid (C4 (wr.alloc (.cells #[.int .u64 (y.1:Int),.int .i64 (y.2.1:Int),.int .i64 (y.2.2.1:Int),.int .i64 (y.2.2.2:Int)] 248)) wr.heap.size y):=C4.new _ _;have I2:Hid (Bh w x (wr.alloc (.cells #[.int .u64 (y.1:Int),.int .i64 (y.2.1:Int),.int .i64 (y.2.2.1:Int),.int .i64 (y.2.2.2:Int)] 248))):=HC.o.2.next (Ax.alloc nl _);go_upto_region 6 with fail
   generalize wr.alloc (.cells #[.int .u64 (y.1:Int),.int .i64 (y.2.1:Int),.int .i64 (y.2.2.1:Int),.int .i64 (y.2.2.2:Int)] 248)=w2 at *;obtain⟨gt,mV⟩:=Nm wr.heap.size;have T3:Hid (C4 w2 gt y):=by rw[<-mV.o];exact T2.o
   rw[mV.o];clear T2 d0 d1 d2 d3;obtain⟨a0,a1,a2,a3⟩:=T3.o.cs;go_wp2_with fail;refine(EN y.1 (e:Int) _ hys oo).mono ?_;obtain⟨b,Hb⟩:=Nm (hasB y.1 (e:Int));rw[Hb.o];rw[Hb.o]at Ze;rintro ex wq ⟨rfl,hwq⟩;rw[hwq];clear hwq;cases b
   .have HE:Hid (NC e x ok (cl.drop (i+1))=R):=by have:=Ze.o;rwa[if_neg (by simp)]at this
    go_wp2_with fail;go_roundg(go-1);case measure=>omega
    case rel=>exact⟨x,ok,i+1,rfl,by congr 1,oo,HE.o,I2.o⟩
   .have HE:Hid (NC e (if 0<JQ y.2 x then y.2 else x) true (cl.drop (i+1))=R):=by have:=Ze.o;rwa[if_pos rfl]at this
    obtain⟨b0,b1,b2⟩:=W3.cs I2.o.all;go_wp2_with fail;refine(Po (y.2.1:Int) (y.2.2.1:Int) (y.2.2.2:Int) (x.1:Int) (x.2.1:Int) (x.2.2:Int) _).mono ?_;obtain⟨c,Hc⟩:=Nm (Pn (y.2.1:Int) (y.2.2.1:Int) (y.2.2.2:Int) (x.1:Int) (x.2.1:Int) (x.2.2:Int));rw[Hc.o];have HCW:Hid (JQ y.2 x=c):=Hc.o;rw[HCW.o]at HE;rintro ex w3 ⟨rfl,hb3⟩;have I3:=hid (I2.o.next hb3);have T4:=hid (T3.o.below hb3);clear hb3 b0 b1 b2 a0 a1 a2 a3 T3;obtain⟨a0,a1,a2,a3⟩:=T4.o.cs;by_cases hc:0<c
    .rw[if_pos hc]at HE;obtain⟨b0,b1,b2⟩:=W3.cs I3.o.all;have z0:=W3.fz I3.o.all 0;have z1:=W3.fz I3.o.all 1;have z2:=W3.fz I3.o.all 2;have I4:=hid (I3.o.set y.2);go_wp2_with fail;go_roundg(go-1);case measure=>omega
     case rel=>exact⟨y.2,true,i+1,rfl,by congr 1,oo,HE.o,I4.o⟩
    .rw[if_neg hc]at HE;have hc':c<=0:=oo;go_wp2_with fail;go_roundg(go-1);case measure=>omega
     case rel=>exact⟨x,true,i+1,rfl,by congr 1,oo,HE.o,I3.o⟩
  .have h1:(cl.length:Int)<=(i:Int):=oo;have HV:Hid ((x,ok)=R):=by
    show _=_;rw[<-HC.o.1,List.drop_of_length_le (show cl.length<=i by omega)];rfl
   obtain⟨b0,b1,b2⟩:=W3.cs HC.o.2.all;obtain⟨r0,r1,r2⟩:=HC.o.2.res.cs;have z0:=HC.o.2.res.fz 0;have z1:=HC.o.2.res.fz 1;have z2:=HC.o.2.res.fz 2;go_wp2_with fail;refine bodyPost_ret (v:=.tuple #[.agg #[.int .i64 (x.1:Int),.int .i64 (x.2.1:Int),.int .i64 (x.2.2:Int)],.bool ok]) (by simp[results,Tryz.results94,go_sem,r0,r1,r2]) rfl ?_;exact⟨by rw[<-HV.o];rfl,jR HC.o.2.below nl _ _ _⟩
open Go.Maps (Keyed)
open Go.ChangeMaps (setBlock modify_eq_set)
def pY(k:TypeId)(w:WD)(b:Nat)(m:Av->Option Av):Prop:=∃es clock,w.heap[b]?=some (.map es clock)/\(∀x∈es.toList,∃l,keyOf prog k x.key=some l)/\(∀x∈es.toList,m x.key=some x.val)/\(∀q v,m q=some v->∃x∈es.toList,x.key=q)/\es.toList.Pairwise (fun x y=>x.key≠y.key)
theorem pY.new(k:TypeId)(w:WD):pY k (w.alloc (.map #[] 0)) w.heap.size (fun _=>none):=⟨#[],0,heap_alloc_new w _,by simp,by simp,by simp,by simp⟩
theorem pY.lt{k:TypeId}{w:WD}{b:Nat}{m:Av->Option Av}(h:pY k w b m):b<w.heap.size:=by obtain⟨es,c,h1,_⟩:=h;exact(Ay h1)
theorem pY.keep{k:TypeId}{w w':WD}{b:Nat}{m:Av->Option Av}(h:pY k w b m)(hb:w'.heap[b]?=w.heap[b]?):pY k w' b m:=by obtain⟨es,c,h1,h2⟩:=h;exact⟨es,c,hb.trans h1,h2⟩
theorem pY.look{k t e:TypeId}{w:WD}{b:Nat}{m:Av->Option Av}(h:pY k w b m)(K:Keyed prog k)(ht:prog.underlying t=some (.map k e)){z:Av}(hz:(zeroValue e).run prog w=.ok z w){key:Av}{l:Go.Lit}(hk:keyOf prog k key=some l):
  (Instr.lookup t (.map (some b)) key true).run prog w=.ok (.tuple #[(m key).getD z,.bool (m key).isSome]) w:=by
 obtain⟨es,c,h1,h2,h3,h4,h5⟩:=h;rcases K.find w hk es.toList h2 with⟨hf,hn⟩|⟨j,e0,hf,hj,he⟩
 .have hm:m key=none:=by
   cases hq:m key with
   |none=>rfl
   |some v=>obtain⟨x,hx,e⟩:=h4 _ _ hq;exact absurd e (hn x hx)
  rw[hm];simp[Instr.lookup,run_underlying ht,MapKept.run_getObj_map h1,K.check w _ hk,hf,hz,Result.andThen]
 .have hm:m key=some e0.val:=by rw[<-he];exact h3 e0 (List.mem_of_getElem? hj)
  rw[hm];simp[Instr.lookup,run_underlying ht,MapKept.run_getObj_map h1,K.check w _ hk,hf,Result.andThen]
theorem pY.upd{k t e:TypeId}{w:WD}{b:Nat}{m m':Av->Option Av}(h:pY k w b m)(K:Keyed prog k)(ht:prog.underlying t=some (.map k e)){key val:Av}{l:Go.Lit}(hk:keyOf prog k key=some l)(h1':m' key=some val)(h2':∀q,q≠key->m' q=m q):
  ∃o,(Instr.mapUpdate t (.map (some b)) key val).run prog w=.ok () (setBlock w b o)/\pY k (setBlock w b o) b m':=by
 have hlt:=h.lt;obtain⟨es,c,h1,h2,h3,h4,h5⟩:=h;have hnew:∀o,(setBlock w b o).heap[b]?=some o:=fun o=>by show(w.heap.setIfInBounds b o)[b]?=_;simp[hlt]
 rcases K.find w hk es.toList h2 with⟨hf,hn⟩|⟨j,e0,hf,hj,he⟩
 .refine⟨.map (es.push ⟨key,val,c⟩) (c+1),?_,es.push ⟨key,val,c⟩,c+1,hnew _,?_,?_,?_,?_⟩
  .simp[Instr.mapUpdate,run_underlying ht,MapKept.run_getObj_map h1,K.check w false hk,hf,MapKept.run_setObj_map _ h1,Result.andThen,setBlock]
  .intro x hx;simp only[Array.toList_push,List.mem_append,List.mem_singleton]at hx;rcases hx with hx|rfl
   .exact h2 x hx
   .exact⟨l,hk⟩
  .intro x hx;simp only[Array.toList_push,List.mem_append,List.mem_singleton]at hx;rcases hx with hx|rfl
   .rw[h2' _ (hn x hx)];exact h3 x hx
   .exact h1'
  .intro q v hq;simp only[Array.toList_push,List.mem_append,List.mem_singleton];by_cases e1:q=key
   .exact⟨_,Or.inr rfl,e1.symm⟩
   .rw[h2' _ e1]at hq;obtain⟨x,hx,e2⟩:=h4 _ _ hq;exact⟨x,Or.inl hx,e2⟩
  .rw[Array.toList_push,List.pairwise_append];refine⟨h5,by simp,fun x hx y hy=>?_⟩;rw[List.mem_singleton.1 hy];exact hn x hx
 .have hj':es[j]?=some e0:=by simpa using hj
  have hjl:j<es.toList.length:=(List.getElem?_eq_some_iff.1 hj).1;have hlist:(es.modify j (fun e'=>{ e' with key:=key,val:=val })).toList=es.toList.set j { e0 with key:=key,val:=val }:=by rw[Array.toList_modify,modify_eq_set _ _ _ _ hj]
  have oth:∀i x,i≠j->es.toList[i]?=some x->x.key≠key:=by
   intro i x hij hx e1;have hp:=List.pairwise_iff_getElem.1 h5;obtain⟨hil,ex⟩:=List.getElem?_eq_some_iff.1 hx;obtain⟨_,ej⟩:=List.getElem?_eq_some_iff.1 hj;rcases Nat.lt_or_gt_of_ne hij with hlt2|hgt
   .exact hp i j hil hjl hlt2 (by rw[ex,ej,e1,he])
   .exact hp j i hjl hil hgt (by rw[ex,ej,e1,he])
  have who:∀x∈es.toList.set j { e0 with key:=key,val:=val },x = { e0 with key:=key,val:=val }\/(x∈es.toList/\x.key≠key):=by
   intro x hx;obtain⟨i,hi,ex⟩:=List.getElem_of_mem hx;rw[List.getElem_set]at ex;split at ex
   .exact Or.inl ex.symm
   .rename_i hne;have hi':i<es.toList.length:=by simpa using hi
    exact Or.inr ⟨ex ▸ List.getElem_mem hi',oth i x (fun e1=>hne e1.symm) (by rw[List.getElem?_eq_getElem hi',ex])⟩
  refine⟨.map (es.modify j (fun e'=>{ e' with key:=key,val:=val })) c,?_,_,c,hnew _,?_,?_,?_,?_⟩
  .simp[Instr.mapUpdate,run_underlying ht,MapKept.run_getObj_map h1,K.check w false hk,hf,hj',he,K.stays w hk,MapKept.run_setObj_map _ h1,Result.andThen,setBlock]
  .intro x hx;rw[hlist]at hx;rcases who x hx with rfl|⟨hx,_⟩
   .exact⟨l,hk⟩
   .exact h2 x hx
  .intro x hx;rw[hlist]at hx;rcases who x hx with rfl|⟨hx,hne⟩
   .exact h1'
   .rw[h2' _ hne];exact h3 x hx
  .intro q v hq;rw[hlist];by_cases e1:q=key
   .exact⟨{ e0 with key:=key,val:=val },List.mem_iff_getElem.2 ⟨j,by simpa using hjl,by simp⟩,e1.symm⟩
   .rw[h2' _ e1]at hq;obtain⟨x,hx,e2⟩:=h4 _ _ hq;obtain⟨i,hi,ex⟩:=List.getElem_of_mem hx;have hne:i≠j:=by
     rintro rfl;have:=(List.getElem?_eq_some_iff.1 hj).2;rw[ex]at this;exact e1 (by rw[<-e2,this,he])
    exact⟨x,List.mem_iff_getElem.2 ⟨i,by simpa using hi,by rw[List.getElem_set_ne (fun e3=>hne e3.symm)];exact ex⟩,e2⟩
  .rw[hlist];rw[List.pairwise_iff_getElem];intro a b' ha hb' hab;have hp:=List.pairwise_iff_getElem.1 h5;have ha':a<es.toList.length:=by simpa using ha
   have hb2:b'<es.toList.length:=by simpa using hb'
   rw[List.getElem_set,List.getElem_set];split
   .rename_i e1;subst e1;rw[if_neg oo];exact fun e2=>oth b' _ oo (List.getElem?_eq_getElem hb2) e2.symm
   .rename_i e1;split
    .exact oth a _ (fun e3=>e1 e3.symm) (List.getElem?_eq_getElem ha')
    .exact hp a b' ha' hb2 hab
open Go.ChangeMaps (setBlock)
open Go.Maps (Keyed string_keyed)
structure jS where
 pr:BY
 val:List Nd
 imp:Bool
 wt:lU
def wnV(x:jS)(v:Av):Av:=.agg #[.string x.pr,v,.bool x.imp,.int .i64 (x.wt.1:Int),.int .i64 (x.wt.2.1:Int),.int .i64 (x.wt.2.2:Int)]
def btW(a b:jS):Bool:=if a.imp=b.imp then decide (0<=JQ a.wt b.wt) else a.imp
def Wn(w:WD)(b:Nat)(x:jS)(v:Av):Prop:=w.heap[b]?=some (.cells #[.string x.pr,v,.bool x.imp,.int .i64 (x.wt.1:Int),.int .i64 (x.wt.2.1:Int),.int .i64 (x.wt.2.2:Int)] 184 (0,0))
theorem Wn.cs{w:WD}{b:Nat}{x:jS}{v:Av}(h:Wn w b x v):w.cell? ⟨b,0,none⟩=some (.string x.pr)/\w.cell? ⟨b,1,none⟩=some v/\w.cell? ⟨b,2,none⟩=some (.bool x.imp)/\w.cell? ⟨b,3,none⟩=some (.int .i64 (x.wt.1:Int))/\w.cell? ⟨b,4,none⟩=some (.int .i64 (x.wt.2.1:Int))/\w.cell? ⟨b,5,none⟩=some (.int .i64 (x.wt.2.2:Int)):=by have h':w.heap[b]?=_:=h;refine⟨?_,?_,?_,?_,?_,?_⟩<;>(unfold World.cell?;rw[h'];rfl)
theorem Wn.lt{w:WD}{b:Nat}{x:jS}{v:Av}(h:Wn w b x v):b<w.heap.size:=(Ay h)
theorem Wn.new(w:WD)(x:jS)(v:Av):Wn (w.alloc (.cells #[.string x.pr,v,.bool x.imp,.int .i64 (x.wt.1:Int),.int .i64 (x.wt.2.1:Int),.int .i64 (x.wt.2.2:Int)] 184)) w.heap.size x v:=heap_alloc_new w _
theorem Wn.below{w w':WD}{b:Nat}{x:jS}{v:Av}(h:Wn w b x v)(hb:Below w.heap.size w w'):Wn w' b x v:=by show _=_;rw[hb.block _ h.lt];exact h
theorem aha(x y:jS)(va:Option Addr)(vl vc:Nat)(ua:Option Addr)(ul uc:Nat)(w:WD):
  Calls prog 160 #[wnV x (.slice va vl vc),wnV y (.slice ua ul uc)] w fun ex w'=>ex=.returned (.bool (btW x y))/\Below w.heap.size w w':=by
 unfold wnV;have A0:Hid (Wn ((w.alloc (.cells #[.string x.pr,.slice va vl vc,.bool x.imp,.int .i64 (x.wt.1:Int),.int .i64 (x.wt.2.1:Int),.int .i64 (x.wt.2.2:Int)] 184)).alloc (.cells #[.string y.pr,.slice ua ul uc,.bool y.imp,.int .i64 (y.wt.1:Int),.int .i64 (y.wt.2.1:Int),.int .i64 (y.wt.2.2:Int)] 184)) w.heap.size x (.slice va vl vc)):=(Wn.new w x _).below (Ax.alloc nl _);have A1:Hid (Wn ((w.alloc (.cells #[.string x.pr,.slice va vl vc,.bool x.imp,.int .i64 (x.wt.1:Int),.int .i64 (x.wt.2.1:Int),.int .i64 (x.wt.2.2:Int)] 184)).alloc (.cells #[.string y.pr,.slice ua ul uc,.bool y.imp,.int .i64 (y.wt.1:Int),.int .i64 (y.wt.2.1:Int),.int .i64 (y.wt.2.2:Int)] 184)) (w.heap.size+1) y (.slice ua ul uc)):=by have:=Wn.new (w.alloc (.cells #[.string x.pr,.slice va vl vc,.bool x.imp,.int .i64 (x.wt.1:Int),.int .i64 (x.wt.2.1:Int),.int .i64 (x.wt.2.2:Int)] 184)) y (.slice ua ul uc);show Wn _ _ _ _;simpa using this
 have B0:Hid (Below w.heap.size w ((w.alloc (.cells #[.string x.pr,.slice va vl vc,.bool x.imp,.int .i64 (x.wt.1:Int),.int .i64 (x.wt.2.1:Int),.int .i64 (x.wt.2.2:Int)] 184)).alloc (.cells #[.string y.pr,.slice ua ul uc,.bool y.imp,.int .i64 (y.wt.1:Int),.int .i64 (y.wt.2.1:Int),.int .i64 (y.wt.2.2:Int)] 184))):=(Ax.alloc nl _).alloc Ab _;obtain⟨xi,Hxi⟩:=Nm x.imp;obtain⟨yi,Hyi⟩:=Nm y.imp;have HV:Hid (btW x y=if xi=yi then decide (0<=JQ x.wt y.wt) else xi):=by show _=_;unfold btW;rw[Hxi.o,Hyi.o]
 go_in;go_upto_region 1 with fail
 generalize(w.alloc (.cells #[.string x.pr,.slice va vl vc,.bool x.imp,.int .i64 (x.wt.1:Int),.int .i64 (x.wt.2.1:Int),.int .i64 (x.wt.2.2:Int)] 184)).alloc (.cells #[.string y.pr,.slice ua ul uc,.bool y.imp,.int .i64 (y.wt.1:Int),.int .i64 (y.wt.2.1:Int),.int .i64 (y.wt.2.2:Int)] 184)=w2 at *;obtain⟨a0,a1,a2,a3,a4,a5⟩:=A0.o.cs;obtain⟨c0,c1,c2,c3,c4,c5⟩:=A1.o.cs;rw[Hxi.o]at a2;rw[Hyi.o]at c2;have hsz:=B0.o.size;cases xi<;>cases yi
 .go_wp2_with fail;refine(Po (x.wt.1:Int) (x.wt.2.1:Int) (x.wt.2.2:Int) (y.wt.1:Int) (y.wt.2.1:Int) (y.wt.2.2:Int) _).mono ?_;rintro ex w3 ⟨rfl,hb3⟩;have B3:=hid (B0.o.trans (hb3.mono hsz));clear hb3;have HV':Hid (btW x y=decide (0<=Pn (x.wt.1:Int) (x.wt.2.1:Int) (x.wt.2.2:Int) (y.wt.1:Int) (y.wt.2.1:Int) (y.wt.2.2:Int))):=HV.o;go_wp2_with fail;go_ret;exact⟨by rw[HV'.o];rfl,B3.o⟩
 .go_wp2_with fail;go_ret;exact⟨by rw[HV.o];rfl,B0.o⟩
 .go_wp2_with fail;go_ret;exact⟨by rw[HV.o];rfl,B0.o⟩
 .go_wp2_with fail;refine(Po (x.wt.1:Int) (x.wt.2.1:Int) (x.wt.2.2:Int) (y.wt.1:Int) (y.wt.2.1:Int) (y.wt.2.2:Int) _).mono ?_;rintro ex w3 ⟨rfl,hb3⟩;have B3:=hid (B0.o.trans (hb3.mono hsz));clear hb3;have HV':Hid (btW x y=decide (0<=Pn (x.wt.1:Int) (x.wt.2.1:Int) (x.wt.2.2:Int) (y.wt.1:Int) (y.wt.2.1:Int) (y.wt.2.2:Int))):=HV.o;go_wp2_with fail;go_ret;exact⟨by rw[HV'.o];rfl,B3.o⟩
open Go.ChangeMaps (setBlock)
open Go.Maps (Keyed string_keyed)
def pG(B:Nat)(w:WD)(b:Nat)(f:BY->Option jS):Prop:=
 ∃m,pY 9 w b m/\∀s,match f s with|none=>m (.string s)=none|some x=>x.pr=s/\∃va vc,m (.string s)=some (wnV x (.slice va x.val.length vc))/\Sl (fun g=>g<B) w (.slice va x.val.length vc) x.val
def zG(f:BY->Option jS)(x:jS):BY->Option jS:=fun s=>if s=x.pr then(match f x.pr with|none=>some x|some y=>if btW x y=true then some x else some y) else f s
theorem pG.none{B:Nat}{w:WD}{b:Nat}(h:pY 9 w b (fun _=>.none)):pG B w b (fun _=>.none):=⟨_,h,fun _=>rfl⟩
theorem pG.lt{B:Nat}{w:WD}{b:Nat}{f:BY->Option jS}(h:pG B w b f):b<w.heap.size:=by obtain⟨m,h1,_⟩:=h;exact h1.lt
theorem pG.keep{B:Nat}{w w':WD}{b:Nat}{f:BY->Option jS}(h:pG B w b f)(hb:Below B w w')(he:w'.heap[b]?=w.heap[b]?):pG B w' b f:=by
 obtain⟨m,h1,h2⟩:=h;refine⟨m,h1.keep he,fun s=>?_⟩;have h3:=h2 s;cases hf:f s with
 |none=>rw[hf]at h3;exact h3
 |some x=>rw[hf]at h3;obtain⟨e,va,vc,h4,h5⟩:=h3;exact⟨e,va,vc,h4,h5.below hb nl⟩
theorem qO:Keyed prog 9:=string_keyed Tryz.underlying9
theorem JR(w:WD):(zeroValue 184).run prog w=.ok (.agg #[.string ⟨#[]⟩,.slice none 0 0,.bool false,.int .i64 0,.int .i64 0,.int .i64 0]) w:=by kernel_rfl
theorem zo{s:BY}(h:s.size<=4000000):keyOf prog 9 (.string s)=some (.string s.data.toList):=WideMaps.keyOf_string_mk Tryz.underlying9 As
theorem JU{a b:BY}(h:(.string a:Av)=.string b):a=b:=by cases h;rfl
theorem pG.upd{B:Nat}{w:WD}{b:Nat}{f f':BY->Option jS}{x:jS}{va:Option Addr}{vc:Nat}(h:pG B w b f)(hB:B<=b)(hx:Sl (fun g=>g<B) w (.slice va x.val.length vc) x.val)(hp:x.pr.size<=4000000)
  (h1:f' x.pr=some x) (h2:∀s,s≠x.pr->f' s=f s):
  ∃o,(Instr.mapUpdate 127 (.map (some b)) (.string x.pr) (wnV x (.slice va x.val.length vc))).run prog w=.ok () (setBlock w b o)/\pG B (setBlock w b o) b f':=by
 obtain⟨m,hm,hf⟩:=h;have hlt:=hm.lt;open Classical in
 obtain⟨o,hr,hm'⟩:=hm.upd (m':=fun q=>if q=.string x.pr then some (wnV x (.slice va x.val.length vc)) else m q) qO Tryz.underlying127 (zo hp) (if_pos rfl) (fun q hq=>if_neg hq);have hbl:Below B w (setBlock w b o):=⟨rfl,rfl,rfl,by show _<=(w.heap.setIfInBounds b o).size;simp,fun g hg=>by show(w.heap.setIfInBounds b o)[g]?=_;rw[Array.getElem?_setIfInBounds_ne oo]⟩
 refine⟨o,hr,_,hm',fun s=>?_⟩;by_cases e:s=x.pr
 .subst e;rw[h1];exact⟨rfl,va,vc,if_pos rfl,hx.below hbl nl⟩
 .rw[h2 s e];have h3:=hf s;have hne:¬(Value.string s=.string x.pr):=fun h=>e (JU h);cases hq:f s with
  |none=>rw[hq]at h3;exact(if_neg hne).trans h3
  |some y=>rw[hq]at h3;obtain⟨e1,va',vc',h4,h5⟩:=h3;exact⟨e1,va',vc',(if_neg hne).trans h4,h5.below hbl nl⟩
theorem JV{mb:Nat}{w w2:WD}{o:Obj}(h:Below w.heap.size w w2):Turn mb w (setBlock w2 mb o):=
 ⟨h.os,h.tape,h.output,by show _<=(w2.heap.setIfInBounds mb o).size;simpa using h.size,fun g hg hne=>by show(w2.heap.setIfInBounds mb o)[g]?=_;rw[Array.getElem?_setIfInBounds_ne (fun e=>hne e.symm)];exact h.block g hg⟩
theorem ahb(B:Nat)(f:BY->Option jS)(mb:Nat)(x:jS)(va:Option Addr)(vc:Nat)(w:WD)(h:pG B w mb f)(hB:B<=mb)(hx:Sl (fun g=>g<B) w (.slice va x.val.length vc) x.val)(hp:x.pr.size<=4000000):
  Calls prog 95 #[.map (some mb),wnV x (.slice va x.val.length vc)] w fun ex w'=>ex=.returned (.tuple #[])/\pG B w' mb (zG f x)/\Turn mb w w':=by
 have hml:=h.lt;have B0:Hid (Below w.heap.size w (w.alloc (.cells #[.string x.pr,.slice va x.val.length vc,.bool x.imp,.int .i64 (x.wt.1:Int),.int .i64 (x.wt.2.1:Int),.int .i64 (x.wt.2.2:Int)] 184))):=Ax.alloc nl _;have A0:Hid (Wn (w.alloc (.cells #[.string x.pr,.slice va x.val.length vc,.bool x.imp,.int .i64 (x.wt.1:Int),.int .i64 (x.wt.2.1:Int),.int .i64 (x.wt.2.2:Int)] 184)) w.heap.size x (.slice va x.val.length vc)):=Wn.new _ _ _;have M0:Hid (pG B (w.alloc (.cells #[.string x.pr,.slice va x.val.length vc,.bool x.imp,.int .i64 (x.wt.1:Int),.int .i64 (x.wt.2.1:Int),.int .i64 (x.wt.2.2:Int)] 184)) mb f):=h.keep (B0.o.mono oo) (B0.o.block _ hml)
 have HX:=hid (hx.below B0.o oo);clear h hx;unfold wnV;go_in;go_upto_region 1 with fail
 generalize w.alloc (.cells #[.string x.pr,.slice va x.val.length vc,.bool x.imp,.int .i64 (x.wt.1:Int),.int .i64 (x.wt.2.1:Int),.int .i64 (x.wt.2.2:Int)] 184)=w1 at *;obtain⟨nb,Gi⟩:=Nm w.heap.size;rw[Gi.o]at A0;rw[Gi.o];obtain⟨a0,a1,a2,a3,a4,a5⟩:=A0.o.cs;obtain⟨m,hm,hf⟩:=M0.o;have hlk:=hm.look qO Tryz.underlying127 (JR w1) (zo hp);have hfx:=hf x.pr;cases hfp:f x.pr with
 |none=>
  rw[hfp]at hfx;have yD:m (.string x.pr)=none:=hfx;rw[yD]at hlk;clear hf hfx yD hm;have B1:Hid (Below w1.heap.size w1 (w1.alloc (.cells #[.string ⟨#[]⟩,.slice none 0 0,.bool false,.int .i64 0,.int .i64 0,.int .i64 0] 184))):=Ax.alloc nl _;go_upto_region 2 with fail
  generalize w1.alloc (.cells #[.string ⟨#[]⟩,.slice none 0 0,.bool false,.int .i64 0,.int .i64 0,.int .i64 0] 184)=w2 at *;have A2:=hid (A0.o.below B1.o);have BW:=hid (AC B0.o B1.o);have M2:Hid (pG B w2 mb f):=M0.o.keep (B1.o.mono (by have:=B0.o.size;omega)) (B1.o.block _ (by have:=B0.o.size;omega));have HX2:Hid (Sl (fun g=>g<B) w2 (.slice va x.val.length vc) x.val):=HX.o.below B1.o (by have:=B0.o.size;omega);clear a0 a1 a2 a3 a4 a5 hlk;obtain⟨a0,a1,a2,a3,a4,a5⟩:=A2.o.cs;obtain⟨o,hr,hM⟩:=M2.o.upd (f':=zG f x) hB HX2.o hp (by unfold zG;rw[if_pos rfl,hfp]) (fun s hs=>by unfold zG;rw[if_neg hs]);unfold wnV at hr;have HE:=hid hM;have HT:Hid (Turn mb w (setBlock w2 mb o)):=JV BW.o;clear hM;go_wp2_with fail;go_end0
  exact⟨rfl,HE.o,HT.o⟩
 |some y=>
  rw[hfp]at hfx;obtain⟨epr,ya,yc,yD,hys⟩:=hfx;rw[yD]at hlk;have EPR:=hid epr;clear epr;unfold wnV at hlk;simp only[Option.getD_some,Option.isSome_some]at hlk;clear hf yD hm;have B1:Hid (Below w1.heap.size w1 (w1.alloc (.cells #[.string y.pr,.slice ya y.val.length yc,.bool y.imp,.int .i64 (y.wt.1:Int),.int .i64 (y.wt.2.1:Int),.int .i64 (y.wt.2.2:Int)] 184))):=Ax.alloc nl _;have Y2:Hid (Wn (w1.alloc (.cells #[.string y.pr,.slice ya y.val.length yc,.bool y.imp,.int .i64 (y.wt.1:Int),.int .i64 (y.wt.2.1:Int),.int .i64 (y.wt.2.2:Int)] 184)) w1.heap.size y (.slice ya y.val.length yc)):=Wn.new _ _ _;go_upto_region 2 with fail
  generalize w1.alloc (.cells #[.string y.pr,.slice ya y.val.length yc,.bool y.imp,.int .i64 (y.wt.1:Int),.int .i64 (y.wt.2.1:Int),.int .i64 (y.wt.2.2:Int)] 184)=w2 at *;have A2:=hid (A0.o.below B1.o);have BW:=hid (AC B0.o B1.o);have M2:Hid (pG B w2 mb f):=M0.o.keep (B1.o.mono (by have:=B0.o.size;omega)) (B1.o.block _ (by have:=B0.o.size;omega));have HX2:Hid (Sl (fun g=>g<B) w2 (.slice va x.val.length vc) x.val):=HX.o.below B1.o (by have:=B0.o.size;omega);have hs2:=BW.o.size;clear a0 a1 a2 a3 a4 a5 hlk hys;obtain⟨a0,a1,a2,a3,a4,a5⟩:=A2.o.cs;obtain⟨c0,c1,c2,c3,c4,c5⟩:=Y2.o.cs;go_wp2_with fail;refine(aha x y va x.val.length vc ya y.val.length yc _).mono ?_;obtain⟨b,Hb⟩:=Nm (btW x y);rw[Hb.o];rintro ex w3 ⟨rfl,hb3⟩
  have A3:=hid (A2.o.below hb3);have BW3:=hid (BW.o.trans (hb3.mono hs2));have M3:Hid (pG B w3 mb f):=M2.o.keep (hb3.mono oo) (hb3.block _ oo);have HX3:=hid (HX2.o.below hb3 oo);clear hb3 a0 a1 a2 a3 a4 a5 c0 c1 c2 c3 c4 c5;obtain⟨a0,a1,a2,a3,a4,a5⟩:=A3.o.cs;cases b
  .have HE:Hid (zG f x=f):=by
    show _=_;funext s
    unfold zG;by_cases e:s=x.pr
    .rw[if_pos e,hfp,e,hfp];show(if btW x y=true then some x else some y)=some y;rw[Hb.o];rfl
    .rw[if_neg e]
   have HT:Hid (Turn mb w w3):=Turn.of_below BW3.o;go_wp2_with fail;go_end0
   exact⟨rfl,by rw[HE.o];exact M3.o,HT.o⟩
  .obtain⟨o,hr,hM⟩:=M3.o.upd (f':=zG f x) hB HX3.o hp (by unfold zG;rw[if_pos rfl,hfp];show(if btW x y=true then some x else some y)=some x;rw[Hb.o];rfl) (fun s hs=>by unfold zG;rw[if_neg hs]);unfold wnV at hr;have HE:=hid hM;have HT:Hid (Turn mb w (setBlock w3 mb o)):=JV BW3.o;clear hM;go_wp2_with fail;go_end0
   exact⟨rfl,HE.o,HT.o⟩
section
attribute [local go_sem] bI bJ aX aY
def CDv:wV (Dec×Av):=fun _ _ x cs=>cs=[.string x.1.prop,x.2,.bool x.1.imp]
theorem CDv.fair:Fair CDv:=fun _ _ _ _ _ _ _ _ h=>h
theorem CDv.sized:ug CDv 3:=by rintro S w x cs rfl;rfl
def ahc(B:Nat)(w:WD)(x:Dec×Av):Prop:=(∃va vc,x.2=.slice va x.1.val.length vc)/\Sl (fun b=>b<B) w x.2 x.1.val/\x.1.prop.size<=4000000
theorem aiv{B:Nat}{S:Nat->Prop}{w:WD}:∀ {l:List Dec}{cs:List Av},jC vS (fun b=>b<B) w l cs->∃xs:List (Dec×Av),xs.map Prod.fst=l/\jC CDv S w xs cs/\∀x∈xs,ahc B w x
 |[],_,h=>⟨[],rfl,h,by simp⟩
 |d::_,_,⟨c,rest,e,⟨vv,h1,h2,h3⟩,h4⟩=>by
  obtain⟨xs,e1,e2,e3⟩:=aiv (S:=S) h4;refine⟨(d,vv)::xs,by rw[List.map_cons,e1],⟨c,rest,e,h1,e2⟩,?_⟩;intro x hx;rcases List.mem_cons.1 hx with rfl|hx
  .exact⟨h2.form,h2,h3⟩
  .exact e3 x hx
theorem ahd{B:Nat}{w:WD}{base:Nat}{u:Av}{acc:List Dec}{cs:List Av}(h1:w.ownsRow base 181 3 u acc.length cs)(h2:jC vS (fun b=>b<B) w acc cs)(h6:acc.length<=2097152):
  ∃xs:List (Dec×Av),xs.map Prod.fst=acc/\SG CDv 3 (oD base w) w u xs/\∀x∈xs,ahc B w x:=by
 obtain⟨xs,e1,e2,e3⟩:=aiv (S:=DZ base w u) h2;have hl:xs.length=acc.length:=by rw[<-e1,List.length_map]
 exact⟨xs,e1,(show MG CDv 3 181 base w u xs from⟨cs,by rw[hl];exact h1,e2⟩).sl CDv.fair CDv.sized oo,e3⟩
theorem JW(B:Nat)(l:List Nd)(v:Av)(w:WD)(h:Sl (fun b=>b<B) w v l)(hB:B<=w.heap.size):
  Calls prog 93 #[v] w fun e w'=>∃u,e=.returned u/\(∃xs:List (Dec×Av),xs.map Prod.fst=decls l/\SG CDv 3 (oD w.heap.size w') w' u xs/\∀x∈xs,ahc B w' x)/\Below w.heap.size w w':=by
 refine(xW B l v w h hB).mono ?_;rintro e w' ⟨u,cs,h1,⟨h2,h3,h4,_⟩,h6⟩;exact⟨u,h1,ahd h2 h3 h4,h6⟩
end
structure dJ(bs:List Nat)(w w':WD):Prop where
 os:w'.os=w.os
 tape:w'.tape=w.tape
 output:w'.output=w.output
 size:w.heap.size<=w'.heap.size
 block:∀k,k<w.heap.size->k ∉ bs->w'.heap[k]?=w.heap[k]?
theorem dJ.refl(bs:List Nat)(w:WD):dJ bs w w:=⟨rfl,rfl,rfl,Nat.le_refl _,fun _ _ _=>rfl⟩
theorem dJ.trans{bs:List Nat}{x y z:WD}(h:dJ bs x y)(k:dJ bs y z):dJ bs x z:=⟨k.os.trans h.os,k.tape.trans h.tape,k.output.trans h.output,Nat.le_trans h.size k.size,fun g hg hb=>(k.block g (Nat.lt_of_lt_of_le hg h.size) hb).trans (h.block g hg hb)⟩
theorem dJ.of_below{bs:List Nat}{x y:WD}(h:Below x.heap.size x y):dJ bs x y:=⟨h.os,h.tape,h.output,h.size,fun g hg _=>h.block g hg⟩
theorem dJ.ahe{bs:List Nat}{b:Nat}{x y:WD}(h:Turn b x y)(hb:b∈bs):dJ bs x y:=⟨h.os,h.tape,h.output,h.size,fun g hg hn=>h.block g hg (fun e=>hn (e ▸ hb))⟩
theorem dJ.below{bs:List Nat}{B:Nat}{x y:WD}(h:dJ bs x y)(hB:∀b∈bs,B<=b)(hx:B<=x.heap.size):Below B x y:=⟨h.os,h.tape,h.output,h.size,fun g hg=>h.block g oo (fun hm=>by have:=hB g hm;omega)⟩
def mF(B:Nat)(w:WD)(bs:List Nat)(G:Nat->BY->Option jS):Prop:=∀i (h:i<bs.length),pG B w bs[i] (G i)
theorem mF.below{B:Nat}{w w':WD}{bs:List Nat}{G:Nat->BY->Option jS}(h:mF B w bs G)(hb:Below w.heap.size w w')(hB:B<=w.heap.size):mF B w' bs G:=fun i hi=>(h i hi).keep (hb.mono hB) (hb.block _ (h i hi).lt)
theorem mF.upd{B:Nat}{w w':WD}{bs:List Nat}{G:Nat->BY->Option jS}{g:BY->Option jS}{k:Nat}(h:mF B w bs G)(hk:k<bs.length)(ht:Turn bs[k] w w')(hw:pG B w' bs[k] g)(hd:bs.Nodup)(hB:∀b∈bs,B<=b):
  mF B w' bs (fun i=>if i=k then g else G i):=by
 intro i hi;by_cases e:i=k
 .subst e;simp only[if_pos];exact hw
 .simp only[if_neg e];have hne:bs[i]≠bs[k]:=fun e2=>e ((List.getElem_inj hd).1 e2);have hkB:=hB bs[k] (List.getElem_mem hk);have hl:=(h k hk).lt;exact(h i hi).keep (ht.below hkB oo) (ht.block _ (h i hi).lt hne)
theorem LG.dvq{S:Nat->Prop}{w:WD}{l:List (Dec×Av)}{g o i:Nat}(h:LG CDv 3 S w l g o)(hi:i<l.length):(w.cell? ⟨g,o+i*3,none⟩=some (.string l[i].1.prop)/\w.cell? ⟨g,o+i*3+1,none⟩=some l[i].2/\w.cell? ⟨g,o+i*3+2,none⟩=some (.bool l[i].1.imp))/\S g:=by obtain⟨h0,cs,rfl,hc⟩:=h.at l g o i hi;refine⟨⟨?_,hc 1 _ rfl,hc 2 _ rfl⟩,h0⟩;have:=hc 0 _ rfl;rwa[Nat.add_zero]at this
theorem jZ.mono{B B':Nat}{w:WD}{p:aI}{a:Option Addr}{cap:Nat}(h:jZ B w p a cap)(h1:B<=B')(h2:B'<=w.heap.size):jZ B' w p a cap:=⟨h.sg.mono wO.fair h1,h2,h.pg⟩
def Py(t:lU)(g:BY->Option jS)(d:Dec):BY->Option jS:=zG g ⟨d.prop,d.val,d.imp,t⟩
def qg(cl:List Zd)(ds:List Dec)(i:Nat)(g:BY->Option jS):BY->Option jS:=if (NC i (0,0,0) false cl).2=true then ds.foldl (Py (NC i (0,0,0) false cl).1) g else g
theorem Bj{α β:Type}(f:β->α->β)(b:β)(l:List α){j:Nat}(h:j<l.length):(l.take (j+1)).foldl f b=f ((l.take j).foldl f b) l[j]:=by rw[List.take_succ_eq_append_getElem h,List.foldl_append];rfl
def K3(w:WD)(b:Nat)(x0 x1 x2:Av):Prop:=w.heap[b]?=some (.cells #[x0,x1,x2] 77 (0,0))
theorem K3.cs{w:WD}{b:Nat}{x0 x1 x2:Av}(h:K3 w b x0 x1 x2):w.cell? ⟨b,0,none⟩=some x0/\w.cell? ⟨b,1,none⟩=some x1/\w.cell? ⟨b,2,none⟩=some x2:=by have h':w.heap[b]?=_:=h;refine⟨?_,?_,?_⟩<;>(unfold World.cell?;rw[h'];rfl)
theorem K3.lt{w:WD}{b:Nat}{x0 x1 x2:Av}(h:K3 w b x0 x1 x2):b<w.heap.size:=(Ay h)
theorem K3.new(w:WD)(x0 x1 x2:Av):K3 (w.alloc (.cells #[x0,x1,x2] 77)) w.heap.size x0 x1 x2:=heap_alloc_new w _
theorem K3.below{w w':WD}{b:Nat}{x0 x1 x2:Av}(h:K3 w b x0 x1 x2)(hb:Below w.heap.size w w'):K3 w' b x0 x1 x2:=by show _=_;rw[hb.block _ h.lt];exact h
def E3(w:WD)(b:Nat)(x0 x1 x2:Av):Prop:=w.heap[b]?=some (.cells #[x0,x1,x2] 181 (0,0))
theorem E3.cs{w:WD}{b:Nat}{x0 x1 x2:Av}(h:E3 w b x0 x1 x2):w.cell? ⟨b,0,none⟩=some x0/\w.cell? ⟨b,1,none⟩=some x1/\w.cell? ⟨b,2,none⟩=some x2:=by have h':w.heap[b]?=_:=h;refine⟨?_,?_,?_⟩<;>(unfold World.cell?;rw[h'];rfl)
theorem E3.new(w:WD)(x0 x1 x2:Av):E3 (w.alloc (.cells #[x0,x1,x2] 181)) w.heap.size x0 x1 x2:=heap_alloc_new w _
structure aa7(B:Nat)(w:WD)(p:aI)(a:Option Addr)(cap:Nat)(wa:Option Addr)(wc:Nat)(bs:List Nat):Prop where
 pg:jZ B w p a cap
 win:∃rb o,wa=some ⟨rb,o,none⟩/\∀i (h:i<bs.length),w.cell? ⟨rb,o+i,none⟩=some (.map (some bs[i]))
 len:bs.length=p.length
 cap:bs.length<=wc
 nd:bs.Nodup
 lo:∀b∈bs,B<=b
theorem wC{k:TypeId}{w:WD}{b rb o:Nat}{v:Av}{m:Av->Option Av}(h:pY k w b m)(hc:w.cell? ⟨rb,o,none⟩=some v):rb≠b:=by rintro rfl;obtain⟨es,c,h1,_⟩:=h;unfold World.cell? at hc;rw[h1]at hc;cases hc
theorem cell_lt{w:WD}{rb o:Nat}{v:Av}(hc:w.cell? ⟨rb,o,none⟩=some v):rb<w.heap.size:=by
 apply Classical.byContradiction
 intro h;unfold World.cell? at hc;rw[Array.getElem?_eq_none (show w.heap.size<=rb by omega)]at hc;cases hc
theorem ajT(n:Nat)(a:Option Addr)(cap:Nat)(w:WD):
  Calls prog 61 #[.agg #[.slice a n cap]] w fun ex w'=>ex=.returned (.int .i64 (n:Int))/\Below w.heap.size w w':=by
 have B1:Hid (Below w.heap.size w (w.alloc (.cells #[.slice a n cap] 66))):=Ax.alloc nl _;have V1:Hid (bU (w.alloc (.cells #[.slice a n cap] 66)) w.heap.size (.slice a n cap) 66):=bU.new _ _ _;have c0:=V1.o.c;go_in;go_wp2_with fail;go_ret;exact⟨rfl,B1.o⟩
theorem ahf:∃i,prog.info? 127=some i/\i.zero=some (.map none)/\i.size=1/\i.bytes=8:=info_parts Ao
theorem aa8{w:WD}{base e s n:Nat}{v:Av}{xs:List Av}(h:w.ownsRow base e s v n xs){k:TypeId}{b:Nat}{m:Av->Option Av}(hm:pY k w b m):v.ownBlock≠some b:=by
 intro e1;obtain⟨es,c,h1,_⟩:=hm;rcases h.2 with⟨rfl,_⟩|⟨g,cap,cur,rfl,_,hg,_⟩
 .cases e1
 .cases e1;rw[h1]at hg;cases hg
def mpV(b:Nat):Av:=.map (some b)
structure OfI(w:WD)(pv u:Av)(bs:List Nat)(wr:WD):Prop where
 row:wr.ownsRow (w.heap.size+4) 127 1 u bs.length (bs.map mpV)
 cas:K3 wr (w.heap.size+1+1+1) pv u (.map (some (w.heap.size+1+1)))
 res:K3 wr (w.heap.size+1) (.slice none 0 0) (.slice none 0 0) (.map none)
 known:pY 133 wr (w.heap.size+1+1) (fun _=>none)
 maps:∀b∈bs,pY 9 wr b (fun _=>none)
 lo:∀b∈bs,w.heap.size+4<=b
 nd:bs.Nodup
 below:Below w.heap.size w wr
 size:w.heap.size+4<=wr.heap.size
theorem OfI.next{w:WD}{pv u:Av}{bs:List Nat}{wr w':WD}(h:OfI w pv u bs wr)(hb:Below wr.heap.size wr w'):OfI w pv u bs w':=⟨aP h.row fun r hr=>hb.block r (h.row.lt r hr).2,h.cas.below hb,h.res.below hb,h.known.keep (hb.block _ h.known.lt),fun b hm=>(h.maps b hm).keep (hb.block _ (h.maps b hm).lt),h.lo,h.nd,h.below.trans (hb.mono h.below.size),Nat.le_trans h.size hb.size⟩
theorem OfI.more{w:WD}{pv u u':Av}{bs:List Nat}{wr w':WD}{m:Nat}(h:OfI w pv u bs wr)(hm:m=wr.heap.size)
  (hrow:w'.ownsRow (w.heap.size+4) 127 1 u' (bs.length+1) (bs.map mpV++[mpV m])) (hg:((wr.alloc (.map #[] 0)).alloc (.cells #[mpV m] 127)).grownBy w' u.ownBlock):
  OfI w pv u' (bs++[m]) (w'.setCell ⟨w.heap.size+1+1+1,1,none⟩ u'):=by
 have hsz:=h.size;have hlo:∀rr,u.ownBlock=some rr->w.heap.size+4<=rr:=fun rr hr=>(h.row.lt rr hr).1;have keep:∀b,b<wr.heap.size->some b≠u.ownBlock->w'.heap[b]?=wr.heap[b]?:=fun b hb hn=>by rw[hg.block b (by simp;omega) hn,Below.heap_alloc _ _ _ An,Below.heap_alloc _ _ _ hb]
 have aeg:∀b,b<wr.heap.size->some b≠u.ownBlock->b≠w.heap.size+1+1+1->(w'.setCell ⟨w.heap.size+1+1+1,1,none⟩ u').heap[b]?=wr.heap[b]?:=fun b hb hn hc=>by rw[Below.heap_setCell _ _ _ _ hc];exact keep b hb hn
 have ajU:∀b,b<w.heap.size+4->some b≠u.ownBlock:=fun b hb e=>by have:=hlo b e.symm;omega
 have hmn:(w'.setCell ⟨w.heap.size+1+1+1,1,none⟩ u').heap[m]?=some (.map #[] 0):=by
  have hu:some m≠u.ownBlock:=fun e=>by have:=(h.row.lt m e.symm).2;omega
  rw[Below.heap_setCell _ _ _ _ (show m≠_ by show m≠w.heap.size+1+1+1;omega),hg.block m An hu,Below.heap_alloc _ _ _ An,hm];exact heap_alloc_new wr _
 have hcas:w'.heap[w.heap.size+1+1+1]?=_:=(keep _ oo (ajU _ oo)).trans h.cas;refine⟨?_,?_,?_,?_,?_,?_,?_,?_,?_⟩
 .rw[List.length_append,List.map_append];refine aP hrow fun r hr=>?_;have:=(hrow.lt r hr).1;exact Below.heap_setCell _ _ _ _ (by show r≠w.heap.size+1+1+1;omega)
 .exact bQ w' _ 1 _ _ _ u' hcas
 .exact(show _=_ from(aeg _ oo (ajU _ oo) oo).trans h.res)
 .exact h.known.keep (aeg _ oo (ajU _ oo) oo)
 .intro b hb;rcases List.mem_append.1 hb with hb|hb
  .exact(h.maps b hb).keep (aeg _ (h.maps b hb).lt (fun e=>aa8 h.row (h.maps b hb) e.symm) (by have:=h.lo b hb;omega))
  .rw[List.mem_singleton.1 hb];exact⟨#[],0,hmn,by simp,by simp,by simp,by simp⟩
 .intro b hb;rcases List.mem_append.1 hb with hb|hb
  .exact h.lo b hb
  .rw[List.mem_singleton.1 hb];omega
 .rw[List.nodup_append];refine⟨h.nd,by simp,fun x hx y hy e=>?_⟩;rw[List.mem_singleton.1 hy]at e;have:=(h.maps x hx).lt;omega
 .exact(((h.below.alloc h.below.size _).alloc (by simp;have:=h.below.size;omega) _).grown hg An (fun rr hr=>by have:=hlo rr hr;omega)).setCell (p:=⟨w.heap.size+1+1+1,1,none⟩) (by show w.heap.size<=w.heap.size+1+1+1;omega) _
 .have:=hg.size;simp[World.setCell]at this⊢;omega
theorem LG.shq{S:Nat->Prop}{w:WD}{l:List (List Rule)}{g o i:Nat}(h:LG (One dB 4) 1 S w l g o)(hi:i<l.length):∃cv,w.cell? ⟨g,o+i,none⟩=some cv/\SG dB 4 S w cv l[i]/\S g:=by obtain⟨h0,cs,⟨cv,rfl,hs⟩,hc⟩:=h.at l g o i hi;refine⟨cv,?_,hs,h0⟩;have:=hc 0 _ rfl;rw[Nat.mul_one,Nat.add_zero]at this;exact this
theorem LG.rlq{S:Nat->Prop}{w:WD}{l:List Rule}{g o i:Nat}(h:LG dB 4 S w l g o)(hi:i<l.length):∃hv bv bl,(w.cell? ⟨g,o+i*4,none⟩=some (.string (l[i].at_.getD aA))/\w.cell? ⟨g,o+i*4+1,none⟩=some hv/\w.cell? ⟨g,o+i*4+2,none⟩=some (.bool l[i].body.isSome)/\w.cell? ⟨g,o+i*4+3,none⟩=some bv)/\Sl S w hv l[i].head/\Sl S w bv bl/\(∀b,l[i].body=some b->bl=b)/\S g:=by obtain⟨h0,cs,⟨hv,bv,bl,rfl,h1,h2,h3,_⟩,hc⟩:=h.at l g o i hi;refine⟨hv,bv,bl,⟨?_,hc 1 _ rfl,hc 2 _ rfl,hc 3 _ rfl⟩,h1,h2,h3,h0⟩;have:=hc 0 _ rfl;rwa[Nat.add_zero]at this
theorem K3.fz{w:WD}{b:Nat}{x0 x1 x2:Av}(h:K3 w b x0 x1 x2)(k:Nat):w.frozen? ⟨b,k,none⟩=false:=by have h':w.heap[b]?=_:=h;unfold World.frozen?;rw[h'];simp
theorem aeh(w:WD)(v:Av):
  OfI w v (.slice none 0 0) [] ((((w.alloc (.cells #[v] 66)).alloc (.cells #[.slice none 0 0,.slice none 0 0,.map none] 77)).alloc (.map #[] 0)).alloc (.cells #[v,.slice none 0 0,.map (some (w.heap.size+1+1))] 77)) /\
  bU ((((w.alloc (.cells #[v] 66)).alloc (.cells #[.slice none 0 0,.slice none 0 0,.map none] 77)).alloc (.map #[] 0)).alloc (.cells #[v,.slice none 0 0,.map (some (w.heap.size+1+1))] 77)) w.heap.size v 66:=by
 refine⟨⟨World.ownsRow_nil _ _ _ _,?_,?_,?_,by simp,by simp,by simp,?_,by simp⟩,?_⟩
 .have:=heap_alloc_new (((w.alloc (.cells #[v] 66)).alloc (.cells #[.slice none 0 0,.slice none 0 0,.map none] 77)).alloc (.map #[] 0)) (.cells #[v,.slice none 0 0,.map (some (w.heap.size+1+1))] 77);show _=_;simpa using this
 .have:=heap_alloc_new (w.alloc (.cells #[v] 66)) (.cells #[.slice none 0 0,.slice none 0 0,.map none] 77);show _=_;rw[Below.heap_alloc _ _ _ (by simp),Below.heap_alloc _ _ _ (by simp)];simpa using this
 .have:=heap_alloc_new ((w.alloc (.cells #[v] 66)).alloc (.cells #[.slice none 0 0,.slice none 0 0,.map none] 77)) (.map #[] 0);refine⟨#[],0,?_,by simp,by simp,by simp,by simp⟩;rw[Below.heap_alloc _ _ _ (by simp)];simpa using this
 .exact(((Ax.alloc nl _).alloc Ab _).alloc An _).alloc An _
 .exact(((bU.new w v _).alloc _).alloc _).alloc _
theorem ajV{w:WD}{base:Nat}{u:Av}{bs:List Nat}(h:w.ownsRow base 127 1 u bs.length (bs.map mpV))(h0:1<=bs.length):∃rb wc,u=.slice (some ⟨rb,0,none⟩) bs.length wc/\bs.length<=wc/\(∀i (h:i<bs.length),w.cell? ⟨rb,0+i,none⟩=some (.map (some bs[i]))):=by
 have hc:=fun g=>h.cells (g:=g);rcases h.2 with⟨rfl,hn⟩|⟨g,cap,cur,rfl,hbg,hg,hnc,hrest⟩
 .omega
 .refine⟨g,cap,rfl,hnc,fun i hi=>?_⟩;have:=hc g rfl i (mpV bs[i]) (by rw[List.getElem?_map,List.getElem?_eq_getElem hi];rfl);rw[Addr.add_lit]at this;exact this
section
attribute [local go_sem] bI bJ aX aY
end
def wdL(l:List Nd)(x:BY):Bool:=match l with|[n]=>ru (.mk n.t []) x|_=>false
theorem ajW{l:List Nd}{x:BY}(h:¬l.length=1):wdL l x=false:=by
 match l with
 |[]=>rfl
 |[n]=>exact absurd rfl h
 |_::_::_=>rfl
theorem JX(B:Nat)(l:List Nd)(v:Av)(x:BY)(w:WD)(h:Sl (fun b=>b<B) w v l):
  Calls prog 96 #[v,.string x] w fun e w'=>e=.returned (.bool (wdL l x))/\Below w.heap.size w w':=by
 have FU:=h.len;have HS:=hid h;obtain⟨a,cap,rfl⟩:=h.form;clear h;by_cases h1:l.length=1
 .obtain⟨n,rfl⟩:∃n,l=[n]:=List.length_eq_one_iff.1 h1;obtain⟨g,o,nv,cap',e',hN,hcap⟩:=HS.o.head;have e1:a=some ⟨g,o,none⟩:=by cases e';rfl
  have ec:cap=cap':=by cases e';rfl
  subst e1 ec;obtain⟨c0,c1,c2,c3⟩:_/\_/\_/\_:=⟨hN.c0,hN.c1,hN.c2,hN.c3⟩;have hw:=hN.ok.word;obtain⟨ka,kc,rfl⟩:=hN.k.form;have hcp:1<=cap:=by simpa using hcap
  clear hN e' h1;show Calls prog 96 #[.slice (some ⟨g,o,none⟩) 1 cap,.string x] w fun e w'=>e=.returned (.bool (ru (.mk n.t []) x))/\Below w.heap.size w w';have HC:=hid (Q8 n.t (.slice ka n.kids.length kc) x w hw);go_in;go_wp2_with fail;refine HC.o.mono ?_;rintro ex w2 ⟨rfl,hb2⟩;have B2:=hid hb2;clear hb2;go_wp2_with fail;go_ret;exact⟨rfl,B2.o⟩
 .rw[ajW h1];have e1:((l.length:Int)==1)=false:=by
   rw[beq_eq_false_iff_ne];omega
  have e2:¬(l.length:Int)=1:=oo;clear h1;go_in;go_wp2_with fail;go_ret;exact⟨rfl,Ax⟩
def hdB(x:BY):Bool:=decide (x=⟨#[99,111,108,111,114]⟩)||decide (x=⟨#[102,111,110,116,45,115,105,122,101]⟩)||decide (x=⟨#[113,117,111,116,101,115]⟩)||custom x
theorem JY(x:BY)(w:WD):Calls prog 162 #[.string x] w fun e w'=>e=.returned (.bool (hdB x))/\w'=w:=by
 unfold hdB;have l1:=ay x [99,111,108,111,114];have l2:=ay x [102,111,110,116,45,115,105,122,101];have l3:=ay x [113,117,111,116,101,115];have l1':(x.toList==[99,111,108,111,114])=decide (x=⟨#[99,111,108,111,114]⟩):=l1;have l2':(x.toList==[102,111,110,116,45,115,105,122,101])=decide (x=⟨#[102,111,110,116,45,115,105,122,101]⟩):=l2;have l3':(x.toList==[113,117,111,116,101,115])=decide (x=⟨#[113,117,111,116,101,115]⟩):=l3;clear l1 l2 l3;rw[<-l1',<-l2',<-l3'];clear l1' l2' l3';have HC:=hid (rE x w);cases e1:(x.toList==[99,111,108,111,114])
 .cases e2:(x.toList==[102,111,110,116,45,115,105,122,101])
  .cases e3:(x.toList==[113,117,111,116,101,115])
   .go_in;go_wp2_with fail;refine HC.o.mono ?_;rintro ex wq ⟨rfl,hwq⟩;rw[hwq];clear hwq;go_wp2_with fail;go_ret;exact⟨rfl,rfl⟩
   .go_in;go_wp2_with fail;go_ret;exact⟨rfl,rfl⟩
  .go_in;go_wp2_with fail;go_ret;exact⟨rfl,rfl⟩
 .go_in;go_wp2_with fail;go_ret;exact⟨rfl,rfl⟩
theorem TS(B:Nat)(p:aI)(a:Option Addr)(cap e:Nat)(w:WD)(h:jZ B w p a cap)(he:e<p.length):
  Calls prog 100 #[.agg #[.slice a p.length cap],.int .i64 (e:Int)] w fun ex w'=>ex=.returned (.int .i64 (parentOf p e))/\Below w.heap.size w w':=by
 have B0:Hid (Below w.heap.size w (w.alloc (.cells #[.slice a p.length cap] 66))):=Ax.alloc nl _;have V0:Hid (bU (w.alloc (.cells #[.slice a p.length cap] 66)) w.heap.size (.slice a p.length cap) 66):=bU.new _ _ _;have c0:=V0.o.c;obtain⟨g,o,rfl,hgB,hcap,hcs⟩:=(h.alloc (.cells #[.slice a p.length cap] 66)).at;have c1:=hcs e he;have h1:(e:Int)<(p.length:Int):=oo;have hlen:=h.len;clear hcs h;go_in;go_wp2_with fail;go_ret;exact⟨rfl,B0.o⟩
open Go.ChangeMaps (setBlock)
open Go.Maps (Keyed)
theorem Zf:Keyed prog 133:=Keyed.of_law (deep_law (m:=2) oo Ao Ao Ao)
theorem aiw(e:Nat)(s:BY)(he:e<64)(hs:s.size<=4000000):∃l,keyOf prog 133 (.agg #[.int .i64 (e:Int),.string s])=some l:=by
 have hwf:(Lit.int .i64 (e:Int)).wf=true:=by
  have h1:IntKind.i64.min<=(e:Int):=by
   have:IntKind.i64.min<=0:=by decide
   omega
  have h2:(e:Int)<=IntKind.i64.max:=by
   have:(64:Int)<=IntKind.i64.max:=by decide
   omega
  show(decide (IntKind.i64.min<=(e:Int))&&decide ((e:Int)<=IntKind.i64.max))=true;rw[decide_eq_true h1,decide_eq_true h2];rfl
 have hsz:s.size<=maxLen:=by unfold maxLen;omega
 have hk:prog.keyType 133=true:=by kernel_rfl
 have hc:prog.cellsOf 133=2:=by kernel_rfl
 have hci:prog.cellsOf 3=1:=by kernel_rfl
 have hcs:prog.cellsOf 9=1:=by kernel_rfl
 have ht:prog.types.size=(prog.types.size-1)+1:=by kernel_rfl
 unfold keyOf;simp only[Tryz.underlying133];rw[if_pos (by simp[hk,Value.formed,Tryz.underlying133,hc]),ht];unfold Program.keyLits;simp only[Tryz.underlying133,Value.cells];rw[if_pos (by rw[hc];exact⟨rfl,by kernel_rfl⟩)];generalize prog.types.size-1=d;have k1:prog.keyLits (d+1) 3 [.int .i64 (e:Int)]=some [.int .i64 (e:Int)]:=by unfold Program.keyLits;simp only[Tryz.underlying3];exact if_pos ⟨trivial,hwf⟩
 have k2:prog.keyLits (d+1) 9 [.string s]=some [.string s.data.toList]:=by unfold Program.keyLits;simp only[Tryz.underlying9];exact if_pos hsz
 simp only[List.mapM_cons,List.mapM_nil,hci,hcs,List.drop_zero,List.drop_succ_cons,List.take_succ_cons,List.take_zero,k1,k2];exact⟨_,rfl⟩
def qV(e:Nat)(s:BY):Av:=.agg #[.int .i64 (e:Int),.string s]
def aV(t:BY):Av:=.agg #[.string t]
theorem ajX{e e':Nat}{s s':BY}(h:qV e s=qV e' s'):e=e'/\s=s':=by unfold qV at h;simp at h;exact⟨oo,h.2⟩
theorem aei(w:WD):(zeroValue 135).run prog w=.ok (.agg #[.string ⟨#[]⟩]) w:=by kernel_rfl
section
def lN:BY:=⟨#[117,110,115,101,116]⟩
def jU:BY:=⟨#[105,110,104,101,114,105,116]⟩
def nInitial:BY:=⟨#[105,110,105,116,105,97,108]⟩
section
variable {B:Nat} {w w':WD} {p:aI} {a:Option Addr} {cap:Nat} {wa:Option Addr} {wc:Nat} {bs:List Nat} {kb:Nat} {F:Nat->BY->Option jS}
end
end
open Go.ChangeMaps (setBlock)
open Go.ChangeMaps (setBlock)
def Qb(w:WD)(b:Nat)(x0 x1:Av):Prop:=w.heap[b]?=some (.cells #[x0,x1] 133 (0,0))
theorem Qb.cs{w:WD}{b:Nat}{x0 x1:Av}(h:Qb w b x0 x1):w.cell? ⟨b,0,none⟩=some x0/\w.cell? ⟨b,1,none⟩=some x1:=by have h':w.heap[b]?=_:=h;refine⟨?_,?_⟩<;>(unfold World.cell?;rw[h'];rfl)
theorem Qb.lt{w:WD}{b:Nat}{x0 x1:Av}(h:Qb w b x0 x1):b<w.heap.size:=(Ay h)
theorem Qb.new(w:WD)(x0 x1:Av):Qb (w.alloc (.cells #[x0,x1] 133)) w.heap.size x0 x1:=heap_alloc_new w _
theorem Qb.below{w w':WD}{b:Nat}{x0 x1:Av}(h:Qb w b x0 x1)(hb:Below w.heap.size w w'):Qb w' b x0 x1:=by show _=_;rw[hb.block _ h.lt];exact h
theorem aej{mb:Nat}{w w2:WD}{o:Obj}(h:Turn mb w w2):Turn mb w (setBlock w2 mb o):=
 ⟨h.os,h.tape,h.output,by show _<=(w2.heap.setIfInBounds mb o).size;simpa using h.size,fun g hg hne=>by show(w2.heap.setIfInBounds mb o)[g]?=_;rw[Array.getElem?_setIfInBounds_ne (fun e=>hne e.symm)];exact h.block g hg hne⟩
section
attribute [local go_sem] bI bJ aX aY
theorem TT(L B:Nat)(l:List Nd)(v:Av)(w:WD)(h:Sl (Rg L B) w v l)(hB:B<=w.heap.size)(hLw:L<=w.heap.size):
  Calls prog 69 #[v] w fun e w'=>∃u,e=.returned u/\SG dB 4 (oD L w') w' u (rules true l)/\Below w.heap.size w w':=by
 obtain⟨a,cap,rfl⟩:=h.form;have B1:Hid (Below w.heap.size w (w.alloc (.cells #[.int .i64 1,.int .i64 8,.int .i64 9] 3))):=Ax.alloc nl _;have S1:=hid (h.vO B1.o hB);have IE:Hid (∀j,j<3->(w.alloc (.cells #[.int .i64 1,.int .i64 8,.int .i64 9] 3)).cell? ⟨w.heap.size,0+j,none⟩=some (.int .i64 (([1,8,9]:List Int).getD j 0))):=by intro j hj;have hh:(w.alloc (.cells #[.int .i64 1,.int .i64 8,.int .i64 9] 3)).heap[w.heap.size]?=_:=heap_alloc_new w _;unfold World.cell?;rw[hh];rcases(show j=0\/j=1\/j=2 by omega)with rfl|rfl|rfl<;>rfl
 clear h;go_in;go_wp2_with fail;have hlt1:w.heap.size<(w.alloc (.cells #[.int .i64 1,.int .i64 8,.int .i64 9] 3)).heap.size:=by simp
 generalize w.alloc (.cells #[.int .i64 1,.int .i64 8,.int .i64 9] 3)=w1 at *;refine(Nb L B true l _ [1,8,9] _ w1 S1.o oo Ab hlt1 IE.o IG oo).mono ?_;rintro e w2 ⟨u,rfl,hsg,hb2⟩;obtain⟨ua,uc,rfl⟩:=hsg.form;have B2:=hid (B1.o.trans (hb2.mono oo));have Rn:=hid hsg;clear hsg hb2;go_wp2_with fail;go_ret;exact⟨_,rfl,Rn.o,B2.o⟩
end
theorem TU(s:BY)(w:WD)(hs:s.size<=600)(hl:Lit w)(hd:depth (bH s)<=8):
  Calls prog 40 #[.string s] w fun e w'=>∃u,e=.returned (.tuple #[u,.bool true])/\SG dB 4 (oD w.heap.size w') w' u (rules true (bH s))/\Below w.heap.size w w':=by
 have HL:=hid hl;have hcs:=oZ s;have htl:=WM (Sp.clean s);have HTO:Hid (∀t∈toks (Sp.clean s),dI t):=Oz oo;obtain⟨nd,Hnd⟩:=Nm (bH s);have Hn2:Hid (nodes (toks (Sp.clean s))=nd):=Hnd.o;rw[Hnd.o]at hd;rw[Hnd.o];clear hl;go_in;go_wp2_with fail;refine(Df s w hs HL.o.glob HL.o.pos).mono ?_;rintro e w1 ⟨c,cap,n,rfl,hcw,hch,hb1⟩;have HC:=hid hch;have B1:=hid hb1;have hs1:=hb1.size;clear hch hb1;go_wp2_with fail;refine(adn (toks (Sp.clean s)) c cap n 0 w1 HC.o oo HTO.o).mono ?_;rw[Hn2.o];rintro e w2 ⟨v2,rfl,hS2,hT2⟩;obtain⟨va,vc,rfl⟩:=hS2.form;have B2:Hid (Below w.heap.size w w2):=Turn.over B1.o hT2 hcw;have hs2:=B2.o.size
 have HS2:Hid (Sl (Rg w.heap.size w2.heap.size) w2 (.slice va nd.length vc) nd):=hS2.keep (fun _ h=>⟨by have:=h.1;omega,h.2⟩) (fun _ _=>rfl);clear hS2 hT2 HC;have hd3:(depth nd:Int)<=8:=oo;clear hd;go_wp2_with fail;refine(TT w.heap.size w2.heap.size nd _ w2 HS2.o nl hs2).mono ?_;rintro e w3 ⟨u3,rfl,WW,hb3⟩;obtain⟨ra,rc,rfl⟩:=WW.form;have Rn:=hid WW;have B3:=hid (B2.o.trans (hb3.mono hs2));clear WW hb3;go_wp2_with fail;go_ret2
 exact⟨_,rfl,Rn.o,B3.o⟩
theorem aek:∃i,prog.info? 85=some i/\i.zero=some (.slice none 0 0)/\i.size=1/\i.bytes=24:=info_parts Ao
def KR(s:BY):List Rule:=rules true (bH s)
theorem ahg(s:BY)(w:WD):Calls prog 60 #[.string s] w fun e w'=>e=.returned (.bool (decide (600<s.size)))/\w'=w:=by
 by_cases h:600<s.size
 .have h1:(600:Int)<(s.size:Int):=oo;rw[decide_eq_true h];go_in;go_wp2_with fail;go_ret;exact⟨by first|rfl|simp[h1],rfl⟩
 .have h1:(s.size:Int)<=600:=oo;have h2:¬(600:Int)<(s.size:Int):=oo;rw[decide_eq_false h];go_in;go_wp2_with fail;go_ret;exact⟨by first|rfl|simp[h2]|(simp;omega),rfl⟩
theorem aa9(S:Nat->Prop)(sh:List BY)(v:Av)(w:WD)(h:SG eX 1 S w v sh)(hn:sh.length<=4)(hs:∀s∈sh,s.size<=600):
  Calls prog 34 #[v] w fun e w'=>e=.returned (.bool false)/\w'=w:=by
 have HC:=hid (rM sh v 60 (fun s=>decide (600<s.size)) S w h (fun _ _=>rfl) (fun x w _=>ahg x w));have hany:sh.any (fun s=>decide (600<s.size))=false:=by rw[List.any_eq_false];intro s hm;have:=hs s hm;simp;omega
 rw[hany]at HC;obtain⟨a,cap,rfl⟩:=h.form;have h4:(sh.length:Int)<=4:=oo;clear h hs hany;go_in;go_wp2_with fail;refine HC.o.mono ?_;rintro e wq ⟨rfl,hwq⟩;rw[hwq];clear hwq;go_wp2_with fail;go_ret;exact⟨rfl,rfl⟩
structure XF where
 parent:Int
 tag:Int
 id:Int
 cls:Int
 attr:Int
def Ql(x:Int):Prop:=-9223372036854775808<=x/\x<=9223372036854775807
def XG(B:Nat)(w:WD)(a:Option Addr)(n:Nat)(f:Nat->XF):Prop:=
 n<=9223372036854775807/\∀i,i<n->i<29->∃g o,a=some ⟨g,o,none⟩/\g<B /\
  (w.cell? ⟨g,o+i*5,none⟩=some (.int .i64 (f i).parent)/\w.cell? ⟨g,o+i*5+1,none⟩=some (.int .i64 (f i).tag)/\w.cell? ⟨g,o+i*5+2,none⟩=some (.int .i64 (f i).id)/\w.cell? ⟨g,o+i*5+3,none⟩=some (.int .i64 (f i).cls)/\w.cell? ⟨g,o+i*5+4,none⟩=some (.int .i64 (f i).attr)) /\
  Ql (f i).parent/\Ql (f i).tag/\Ql (f i).id/\Ql (f i).cls/\Ql (f i).attr
theorem XG.below{B B':Nat}{w w':WD}{a:Option Addr}{n:Nat}{f:Nat->XF}(h:XG B w a n f)(hb:Below B' w w')(hB:B<=B'):XG B w' a n f:=by refine⟨h.1,fun i hi h29=>?_⟩;obtain⟨g,o,h1,h2,⟨c0,c1,c2,c3,c4⟩,h4⟩:=h.2 i hi h29;have e:∀k,w'.cell? ⟨g,k,none⟩=w.cell? ⟨g,k,none⟩:=fun k=>World.cell?_of_block (w:=w) (hb.block g oo);exact⟨g,o,h1,h2,⟨(e _).trans c0,(e _).trans c1,(e _).trans c2,(e _).trans c3,(e _).trans c4⟩,h4⟩
def E5(w:WD)(b:Nat)(x0 x1 x2 x3 x4:Av):Prop:=w.heap[b]?=some (.cells #[x0,x1,x2,x3,x4] 35 (0,0))
def Gj:Nat->BY
 |0=>⟨#[112]⟩
 |1=>⟨#[100,105,118]⟩
 |2=>⟨#[98]⟩
 |_=>⟨#[97]⟩
theorem E5.cs{w:WD}{b:Nat}{x0 x1 x2 x3 x4:Av}(h:E5 w b x0 x1 x2 x3 x4):w.cell? ⟨b,0,none⟩=some x0/\w.cell? ⟨b,1,none⟩=some x1/\w.cell? ⟨b,2,none⟩=some x2/\w.cell? ⟨b,3,none⟩=some x3/\w.cell? ⟨b,4,none⟩=some x4:=⟨(cells_at h 0).trans rfl,(cells_at h 1).trans rfl,(cells_at h 2).trans rfl,(cells_at h 3).trans rfl,(cells_at h 4).trans rfl⟩
theorem E5.fz{w:WD}{b:Nat}{x0 x1 x2 x3 x4:Av}(h:E5 w b x0 x1 x2 x3 x4)(k:Nat):w.frozen? ⟨b,k,none⟩=false:=by have h':w.heap[b]?=_:=h;unfold World.frozen?;rw[h'];simp
theorem E5.set{w w':WD}{b:Nat}{x0 x1 x2 x3 x4 y0 y1 y2 y3 y4:Av}(h:E5 w b x0 x1 x2 x3 x4)(e:((((w.setCell ⟨b,0,none⟩ y0).setCell ⟨b,1,none⟩ y1).setCell ⟨b,2,none⟩ y2).setCell ⟨b,3,none⟩ y3).setCell ⟨b,4,none⟩ y4=w'):
  E5 w' b y0 y1 y2 y3 y4/\(∀q,q≠b->w'.heap[q]?=w.heap[q]?)/\Below b w w':=by
 subst e;have h1:=bQ w b 0 _ _ _ y0 h;have h2:=bQ _ b 1 _ _ _ y1 h1;have h3:=bQ _ b 2 _ _ _ y2 h2;have h4:=bQ _ b 3 _ _ _ y3 h3;have h5:=bQ _ b 4 _ _ _ y4 h4;refine⟨h5,fun q hq=>?_,?_⟩
 .rw[Below.heap_setCell _ _ _ _ hq,Below.heap_setCell _ _ _ _ hq,Below.heap_setCell _ _ _ _ hq,Below.heap_setCell _ _ _ _ hq,Below.heap_setCell _ _ _ _ hq]
 .have hlt:b<=b:=Nat.le_refl _;exact(((((Below.refl b w).setCell (p:=⟨b,0,none⟩) hlt _).setCell (p:=⟨b,1,none⟩) hlt _).setCell (p:=⟨b,2,none⟩) hlt _).setCell (p:=⟨b,3,none⟩) hlt _).setCell (p:=⟨b,4,none⟩) hlt _
theorem E5.set1{w w':WD}{b:Nat}{x0 x1 x2 x3 x4:Av}(h:E5 w b x0 x1 x2 x3 x4)(k:Nat)(u:Av)(e:w.setCell ⟨b,k,none⟩ u=w'):w'.heap[b]?=some (.cells ((#[x0,x1,x2,x3,x4]:Array Av).setIfInBounds k u) 35 (0,0))/\(∀q,q≠b->w'.heap[q]?=w.heap[q]?)/\Below b w w':=by subst e;exact⟨bQ w b k _ _ _ u h,fun q hq=>Below.heap_setCell _ _ _ _ hq,(Below.refl b w).setCell (p:=⟨b,k,none⟩) nl _⟩
theorem E5.lt{w:WD}{b:Nat}{x0 x1 x2 x3 x4:Av}(h:E5 w b x0 x1 x2 x3 x4):b<w.heap.size:=(Ay h)
theorem E5.alloc{w:WD}{b:Nat}{x0 x1 x2 x3 x4:Av}(h:E5 w b x0 x1 x2 x3 x4)(ob:Obj):E5 (w.alloc ob) b x0 x1 x2 x3 x4:=by unfold E5;rw[Below.heap_alloc _ _ _ h.lt];exact h
def FrB(base b:Nat)(w:WD)(q:Nat):Prop:=base<=q/\q<w.heap.size/\q≠b
theorem ahh{w:WD}{n base b:Nat}{s:BY}(h:w.heap[n]?=some (.cells #[.string s] 9 (0,0)))(hb:base<=n)(hn:n≠b)(hs:s.size<=100):SG eX 1 (FrB base b w) w (.slice (some ⟨n,0,none⟩) 1 1) [s]:=
 ⟨_,_,rfl,⟨Nat.le_refl _,by simp⟩,fun _=>⟨n,0,rfl,⟨⟨hb,(Ay h),hn⟩,[.string s],⟨rfl,oo⟩,fun j u hu=>by rw[Nat.zero_add,cells_at h];simpa using hu⟩,trivial⟩⟩
theorem ahi{w:WD}{n base b:Nat}{s t:BY}(h:w.heap[n]?=some (.cells #[.string s,.string t] 96 (0,0)))(hb:base<=n)(hn:n≠b)(hs:s.size<=100)(ht:t.size<=100):SG qH 2 (FrB base b w) w (.slice (some ⟨n,0,none⟩) 1 1) [(s,t)]:=
 ⟨_,_,rfl,⟨Nat.le_refl _,by simp⟩,fun _=>⟨n,0,rfl,⟨⟨hb,(Ay h),hn⟩,[.string s,.string t],⟨rfl,Nat.le_trans hs oo,Nat.le_trans ht oo⟩,fun j u hu=>by rw[Nat.zero_add,cells_at h];simpa using hu⟩,trivial⟩⟩
theorem E5.put{w W:WD}{b base:Nat}{x0 x1 x2 x3 x4:Av}(h:E5 w b x0 x1 x2 x3 x4)(k:Nat)(u:Av)(R O:Obj)(hb:base<=b)(hB:base<=w.heap.size)(e:((w.setCell ⟨b,k,none⟩ u).alloc R).alloc O=W):
  W.heap[b]?=some (.cells ((#[x0,x1,x2,x3,x4]:Array Av).setIfInBounds k u) 35 (0,0))/\W.heap[w.heap.size+1]?=some O/\Below base w W/\(∀q,q<w.heap.size->q≠b->W.heap[q]?=w.heap[q]?)/\W.heap.size=w.heap.size+2:=by
 subst e;have hs:(w.setCell ⟨b,k,none⟩ u).heap.size=w.heap.size:=by simp[World.setCell]
 have hs2:((w.setCell ⟨b,k,none⟩ u).alloc R).heap.size=w.heap.size+1:=by simp[hs]
 have hlt:=h.lt;refine⟨?_,?_,?_,fun q hq hqb=>?_,by simp[hs]⟩
 .rw[Below.heap_alloc _ _ _ oo,Below.heap_alloc _ _ _ oo];exact bQ w b k _ _ _ u h
 .rw[<-hs2];exact heap_alloc_new _ _
 .exact(((Below.refl base w).setCell (p:=⟨b,k,none⟩) hb _).alloc oo _).alloc oo _
 .rw[Below.heap_alloc _ _ _ oo,Below.heap_alloc _ _ _ oo];exact Below.heap_setCell _ _ _ _ hqb
theorem E5.am0{w W:WD}{b base:Nat}{x0 x1 x2 x3 x4:Av}(h:E5 w b x0 x1 x2 x3 x4)(k:Nat)(u:Av)(R O:Obj)(hb:base<=b)(hB:base<=w.heap.size)(e:((w.alloc R).alloc O).setCell ⟨b,k,none⟩ u=W):
  W.heap[b]?=some (.cells ((#[x0,x1,x2,x3,x4]:Array Av).setIfInBounds k u) 35 (0,0))/\W.heap[w.heap.size+1]?=some O/\Below base w W/\(∀q,q<w.heap.size->q≠b->W.heap[q]?=w.heap[q]?)/\W.heap.size=w.heap.size+2:=by
 subst e;have hs2:(w.alloc R).heap.size=w.heap.size+1:=by simp
 have hlt:=h.lt;have hE:E5 ((w.alloc R).alloc O) b x0 x1 x2 x3 x4:=(h.alloc R).alloc O;refine⟨bQ _ b k _ _ _ u hE,?_,?_,fun q hq hqb=>?_,by simp[World.setCell]⟩
 .rw[Below.heap_setCell _ _ _ _ (show w.heap.size+1≠b by omega),<-hs2];exact heap_alloc_new _ _
 .exact(((Below.refl base w).alloc oo _).alloc oo _).setCell (p:=⟨b,k,none⟩) hb _
 .rw[Below.heap_setCell _ _ _ _ hqb,Below.heap_alloc _ _ _ oo,Below.heap_alloc _ _ _ oo]
theorem alP(w:WD)(x0 x1 x2 x3 x4:Av)(T:TypeId):∀j u,[x0,x1,x2,x3,x4][j]?=some u->(w.alloc (.cells #[x0,x1,x2,x3,x4] T)).cell? ((⟨w.heap.size,0,none⟩:Addr).add j)=some u:=by
 intro j u hu;have e:=heap_alloc_new w (.cells #[x0,x1,x2,x3,x4] T);have e2:(⟨w.heap.size,0,none⟩:Addr).add j=⟨w.heap.size,j,none⟩:=by rw[Addr.add_lit,Nat.zero_add]
 rw[e2,cells_at e];simpa using hu
theorem ahj:∃i,prog.info? 35=some i/\i.zero=some (.agg #[.int .i64 0,.string ⟨#[]⟩,.string ⟨#[]⟩,.slice none 0 0,.slice none 0 0])/\i.size=5/\i.bytes=88:=info_parts Ao
theorem JZ:∀(d:aI) (k:Nat) (x:Elem),gI k d=true->xC (k+d.length) x=true->gI k (d++[x])=true
 |[],k,x,_,h=>by simpa[gI]using h
 |y::r,k,x,h,hx=>by simp only[gI,Bool.and_eq_true]at h;rw[List.cons_append];simp only[gI,Bool.and_eq_true];exact⟨h.1,JZ r (k+1) x h.2 (by rw[List.length_cons]at hx;rw[show k+1+r.length=k+(r.length+1) by omega];exact hx)⟩
theorem ahk(k:Nat):nameP (Gj k)=true/\Gj k≠aA/\(Gj k).size<=100:=by unfold Gj;split<;>decide
theorem fU{w w':WD}{ad:Addr}{u:Av}(hb:Below w.heap.size w w')(h:w.cell? ad=some u):w'.cell? ad=some u:=(World.cell?_of_block (w:=w) (hb.block ad.block (World.block_lt_of_cell? w _ h))).trans h
theorem ND{w:WD}{b:Nat}(h:w.heap[b]?=some (.cells #[.string ⟨#[112]⟩,.string ⟨#[100,105,118]⟩,.string ⟨#[98]⟩,.string ⟨#[97]⟩] 9 (0,0)))(i:Nat)(hi:i<4):w.cell? ⟨b,i,none⟩=some (.string (Gj i)):=by rw[cells_at h];rcases(show i=0\/i=1\/i=2\/i=3 by omega)with rfl|rfl|rfl|rfl<;>rfl
def alQ:Elem:=⟨-1,⟨#[104,116,109,108]⟩,⟨#[]⟩,[],[]⟩
def pgI(d:aI):Prop:=gI 0 d=true/\d[0]?=some alQ
theorem ajY(n:Nat)(f:Nat->XF)(a:Option Addr)(cap:Nat)(B:Nat)(w:WD)(h:XG B w a n f)(hB:B<=w.heap.size):
  Calls prog 22 #[.slice a n cap] w fun e w'=>∃(u:Av) (d:aI),e=.returned u/\MG wO 5 35 w.heap.size w' u d/\iL d=true/\(d.length=min n 29+1/\d[0]?=some alQ)/\Below w.heap.size w w':=by
 have hl:=h.1;have HS:=hid h;clear h;obtain⟨iT,hiT⟩:=ahj;have HI:Hid (prog.info? 35=some iT/\iT.zero=some (.agg #[.int .i64 0,.string ⟨#[]⟩,.string ⟨#[]⟩,.slice none 0 0,.slice none 0 0])/\iT.size=5/\iT.bytes=88):=hiT;clear hiT;go_in;go_wp2_with fail;go_loopg[3,4] n (fun gg v3 v4 wr=>∃(u:Av) (i:Nat) (d:aI),u=v3/\v4=.int .i64 (i:Int)/\i+gg=n/\i<=29/\d.length=i+1/\Aside (MG wO 5 35 w.heap.size wr u d/\pgI d/\Below w.heap.size w wr));case atStart=>refine⟨_,0,[⟨-1,⟨#[104,116,109,108]⟩,⟨#[]⟩,[],[]⟩],rfl,rfl,oo,oo,rfl,⟨_,World.ownsRow_lit w _ 1 nl As rfl,?_⟩,⟨by decide,rfl⟩,Ax.alloc nl _⟩;exact⟨_,[],(List.append_nil _).symm,⟨_,_,rfl,SG.iE _ _ _ _ _ _,SG.iE _ _ _ _ _ _,by decide,by decide,by decide,by decide⟩,rfl⟩
 case round=>
  obtain⟨u,i,d,rfl,rfl,hi,anA,hdl,hA⟩:=hrel;have HC:=hid hA.o;clear hA;have hsr:=HC.o.2.2.size;by_cases hlt:i<n
  .have h1:(i:Int)<(n:Int):=oo;by_cases h29:i<29
   .have h2:(i:Int)<29:=oo;obtain⟨g,o,rfl,hgB,⟨c0,c1,c2,c3,c4⟩,k0,k1,k2,k3,k4⟩:=(HS.o.below HC.o.2.2 hB).2 i hlt h29;obtain⟨x,Hx⟩:=Nm (f i);rw[Hx.o]at c0 c1 c2 c3 c4 k0 k1 k2 k3 k4;obtain⟨ua,uc,hu⟩:=HC.o.1.form;subst hu;rw[hdl]at HC⊢;have lp:=jJ x.parent (n:=i+1) oo;have lt4:=jJ x.tag (n:=4) oo;have anB:(bK x.tag 4:Int)<4:=oo;go_upto_region 5 with fail
    go_cut [5] (fun s5 wx=>∃(b:Nat) (pr:Nat) (k:Nat),s5=.pointer (some ⟨b,0,none⟩)/\wr.heap.size<=b/\pr<i+1/\Aside (E5 wx b (.int .i64 (pr:Int)) (.string (Gj k)) (.string ⟨#[]⟩) (.slice none 0 0) (.slice none 0 0)/\Below wr.heap.size wr wx));case first=>
     refine wp_region_any Ao ?_;change wpAny _ _ _ _ _ _ _ (World.drew _);obtain⟨wz,hwz⟩:∃x,World.drew wr=x:=⟨_,rfl⟩;have hz:Below wr.heap.size wr wz:=by rw[<-hwz];exact Ax.drew
     have HZ:Hid (wz.cell? ⟨g,o+i*5,none⟩=some (.int .i64 x.parent)/\wz.cell? ⟨g,o+i*5+1,none⟩=some (.int .i64 x.tag)):=by rw[<-hwz];exact⟨c0,c1⟩
     have BZ:=hid hz;rw[hwz];clear hwz hz c0 c1 c2 c3 c4;refine wpAny_of_held (S:=fun wx=>wx.cell? ⟨g,o+i*5,none⟩=some (.int .i64 x.parent)/\wx.cell? ⟨g,o+i*5+1,none⟩=some (.int .i64 x.tag)) _ _ _ _ ?_;refine dH 0 rfl HZ.o (by intro w hSw;obtain⟨r0,r1⟩:=hSw;exact gs) ?_;refine dH 1 rfl HZ.o (by intro w hSw;obtain⟨r0,r1⟩:=hSw;exact gs) ?_;refine dH 2 rfl HZ.o (by intro w hSw;obtain⟨r0,r1⟩:=hSw;exact gs) ?_;refine dH 3 rfl HZ.o (by intro w hSw;obtain⟨r0,r1⟩:=hSw;exact gs) ?_;refine dH 4 rfl HZ.o (by intro w hSw;obtain⟨r0,r1⟩:=hSw;exact gs) ?_;refine dH 5 rfl HZ.o (by intro w hSw;obtain⟨r0,r1⟩:=hSw;exact gs) ?_
     refine dH 6 rfl HZ.o (by intro w hSw;obtain⟨r0,r1⟩:=hSw;exact gs) ?_;refine dH 9 rfl HZ.o (by intro w hSw;obtain⟨r0,r1⟩:=hSw;exact gs) ?_;refine dH 10 rfl HZ.o (by intro w hSw;obtain⟨r0,r1⟩:=hSw;exact gs) ?_;refine dH 11 rfl HZ.o (by intro w hSw;obtain⟨r0,r1⟩:=hSw;exact gs) ?_;refine dH 12 rfl HZ.o (by intro w hSw;obtain⟨r0,r1⟩:=hSw;exact gs) ?_;refine dH 13 rfl HZ.o (by intro w hSw;obtain⟨r0,r1⟩:=hSw;exact gs) ?_;refine tkT 7 rfl HZ.o 14 #[.int .i64 x.parent,.int .i64 ((i+1:Nat):Int)] (by intro w hSw;exact gs) (fun w _=>TI x.parent (i+1) w k0 ⟨oo,oo⟩) ?_
     refine tkT 14 rfl HZ.o 14 #[.int .i64 x.tag,.int .i64 ((4:Nat):Int)] (by intro w hSw;exact gs) (fun w _=>TI x.tag 4 w k1 ⟨oo,oo⟩) ?_;obtain⟨m,Hm⟩:=Nm wz.heap.size;have hgz:g<m:=by rw[<-Hm.o];exact World.block_lt_of_cell? wz _ HZ.o.1
     have hmz:wr.heap.size<=m:=by rw[<-Hm.o];exact BZ.o.size
     refine wpAnyH_ready (rs:=[8,18]) Ao Ab (AllReadyH.cons rfl (fun K hK=>?_) (AllReadyH.cons rfl (fun K hK=>?_) AllReadyH.nil))
     .go_simp;generalize hw1:World.alloc _ _=w1;obtain⟨q1,hq1⟩:=qy hw1;have hs1:w1.heap.size=m+1:=by rw[<-hw1];simp[Hm.o]
      rw[Hm.o]at q1;have Z1:Hid (w1.cell? ⟨g,o+i*5,none⟩=some (.int .i64 x.parent)/\w1.cell? ⟨g,o+i*5+1,none⟩=some (.int .i64 x.tag)):=⟨fU hq1 HZ.o.1,fU hq1 HZ.o.2⟩;have B1:=hid (AC BZ.o hq1);have T1:Hid (w1.cell? ⟨m,bK x.tag 4,none⟩=some (.string (Gj (bK x.tag 4)))):=ND q1 _ lt4;refine hK.o _ _ Z1.o (fun _=>?_);rw[Hm.o];clear hK K hw1 q1 hq1;refine dH 15 rfl Z1.o (fun _ _=>gs) ?_;refine wpAnyH_ready (rs:=[16,18]) Ao Ab (AllReadyH.cons rfl (fun K hK=>?_) (AllReadyH.cons rfl (fun K hK=>?_) AllReadyH.nil));focus
       have t1:=T1.o;go_simp;refine hK.o _ _ Z1.o (fun _=>?_);clear hK K t1;refine dH 17 rfl Z1.o (fun _ _=>gs) ?_;refine iW 18 fun K hK=>?_;go_simp;generalize hw:World.alloc _ _=w2;obtain⟨q,hq⟩:=qy hw;have hs2:w2.heap.size=m+1+1:=by rw[<-hw];simp[hs1]
       rw[hs1]at q;have Z2:Hid (w2.cell? ⟨g,o+i*5,none⟩=some (.int .i64 x.parent)/\w2.cell? ⟨g,o+i*5+1,none⟩=some (.int .i64 x.tag)):=⟨fU hq Z1.o.1,fU hq Z1.o.2⟩;have B2:=hid (AC B1.o hq);have EE:Hid (E5 w2 (m+1) (.int .i64 0) (.string ⟨#[]⟩) (.string ⟨#[]⟩) (.slice none 0 0) (.slice none 0 0)):=q;refine hK.o _ _ Z2.o (fun _=>?_);try rw[hs1]
       clear hK K hw q hq
      rotate_left;focus
       go_simp;generalize hw:World.alloc _ _=w2;obtain⟨q,hq⟩:=qy hw;have hs2:w2.heap.size=m+1+1:=by rw[<-hw];simp[hs1]
       rw[hs1]at q;have Z2:Hid (w2.cell? ⟨g,o+i*5,none⟩=some (.int .i64 x.parent)/\w2.cell? ⟨g,o+i*5+1,none⟩=some (.int .i64 x.tag)):=⟨fU hq Z1.o.1,fU hq Z1.o.2⟩;have B2:=hid (AC B1.o hq);have EE:Hid (E5 w2 (m+1) (.int .i64 0) (.string ⟨#[]⟩) (.string ⟨#[]⟩) (.slice none 0 0) (.slice none 0 0)):=q;have t2:=fU hq T1.o;refine hK.o _ _ Z2.o (fun _=>?_);try rw[hs1]
       clear hK K hw q hq;refine iW 16 fun K hK=>?_;go_simp;refine hK.o _ _ Z2.o (fun _=>?_);clear hK K t2;refine dH 17 rfl Z2.o (fun _ _=>gs) ?_
      rotate_left;all_goals
       obtain⟨e0,e1,e2,e3,e4⟩:=EE.o.cs;have f0:=EE.o.fz 0;have f1:=EE.o.fz 1;have f2:=EE.o.fz 2;have f3:=EE.o.fz 3;have f4:=EE.o.fz 4;refine iW 19 fun K hK=>?_;go_simp;generalize hw5:World.setCell _ _ _=w5;obtain⟨hE,ho,hb5⟩:=EE.o.set hw5;have B5:=hid (B2.o.trans (hb5.mono oo));have HE:=hid hE;have hgm:g≠m+1:=by have:=hgz;omega
       refine hK.o _ _ ⟨(World.cell?_of_block (w:=w2) (ho g hgm)).trans Z2.o.1,(World.cell?_of_block (w:=w2) (ho g hgm)).trans Z2.o.2⟩ (fun _=>?_);clear hK K hw5 e0 e1 e2 e3 e4 f0 f1 f2 f3 f4 hE ho hb5;refine wpAnyH_done Ao ?_ _;go_wp2_with fail;go_meet
       exact⟨m+1,bK x.parent (i+1),bK x.tag 4,rfl,oo,lp,HE.o,B5.o⟩
     .go_simp;generalize hw:World.alloc _ _=w1;obtain⟨q,hq⟩:=qy hw;have hs1:w1.heap.size=m+1:=by rw[<-hw];simp[Hm.o]
      rw[Hm.o]at q;have Z1:Hid (w1.cell? ⟨g,o+i*5,none⟩=some (.int .i64 x.parent)/\w1.cell? ⟨g,o+i*5+1,none⟩=some (.int .i64 x.tag)):=⟨fU hq HZ.o.1,fU hq HZ.o.2⟩;have B1:=hid (AC BZ.o hq);have EE:Hid (E5 w1 (m) (.int .i64 0) (.string ⟨#[]⟩) (.string ⟨#[]⟩) (.slice none 0 0) (.slice none 0 0)):=q;refine hK.o _ _ Z1.o (fun _=>?_);rw[Hm.o];clear hK K hw q hq;refine iW 8 fun K hK=>?_;go_simp;generalize hw:World.alloc _ _=w2;obtain⟨q,hq⟩:=qy hw;rw[hs1]at q;have Z2:Hid (w2.cell? ⟨g,o+i*5,none⟩=some (.int .i64 x.parent)/\w2.cell? ⟨g,o+i*5+1,none⟩=some (.int .i64 x.tag)):=⟨fU hq Z1.o.1,fU hq Z1.o.2⟩;have B2:=hid (AC B1.o hq);have T2:Hid (w2.cell? ⟨m+1,bK x.tag 4,none⟩=some (.string (Gj (bK x.tag 4)))):=ND q _ lt4
      have EE:Hid (E5 w2 m (.int .i64 0) (.string ⟨#[]⟩) (.string ⟨#[]⟩) (.slice none 0 0) (.slice none 0 0)):=by unfold E5;exact(hq.block m oo).trans EE.o
      refine hK.o _ _ Z2.o (fun _=>?_);try rw[hs1]
      clear hK K hw q hq;refine dH 15 rfl Z2.o (fun _ _=>gs) ?_;have t2:=T2.o;refine iW 16 fun K hK=>?_;go_simp;refine hK.o _ _ Z2.o (fun _=>?_);clear hK K t2;refine dH 17 rfl Z2.o (fun _ _=>gs) ?_;obtain⟨e0,e1,e2,e3,e4⟩:=EE.o.cs;have f0:=EE.o.fz 0;have f1:=EE.o.fz 1;have f2:=EE.o.fz 2;have f3:=EE.o.fz 3;have f4:=EE.o.fz 4;refine iW 19 fun K hK=>?_;go_simp;generalize hw5:World.setCell _ _ _=w5;obtain⟨hE,ho,hb5⟩:=EE.o.set hw5;have B5:=hid (B2.o.trans (hb5.mono oo));have HE:=hid hE;have hgm:g≠m:=by have:=hgz;omega
      refine hK.o _ _ ⟨(World.cell?_of_block (w:=w2) (ho g hgm)).trans Z2.o.1,(World.cell?_of_block (w:=w2) (ho g hgm)).trans Z2.o.2⟩ (fun _=>?_);clear hK K hw5 e0 e1 e2 e3 e4 f0 f1 f2 f3 f4 hE ho hb5;refine wpAnyH_done Ao ?_ _;go_wp2_with fail;go_meet
      exact⟨m,bK x.parent (i+1),bK x.tag 4,rfl,oo,lp,HE.o,B5.o⟩
    case rest=>
     obtain⟨b,pr,kt,rfl,hbr,hpr,hA⟩:=hcut;have HE:=hid hA.o;clear hA;have d2:=fU HE.o.2 c2;have d3:=fU HE.o.2 c3;have d4:=fU HE.o.2 c4;have HN:=hid (And.intro c2 (And.intro c3 c4));clear c0 c1 c2 c3 c4;obtain⟨ki,Hki⟩:=Nm (bK x.id 8);have hki:ki<8:=by rw[<-Hki.o];exact jJ _ oo
     have PI:Hid (∀w,Calls prog 14 #[.int .i64 x.id,.int .i64 8] w fun e w'=>e=.returned (.int .i64 (ki:Int))/\w'=w):=fun w=>by have:=TI x.id 8 w k2 ⟨oo,oo⟩;rw[Hki.o]at this;exact this
     go_wp2_with fail;refine pmb (PI.o _) fun wq hwq=>?_;rw[hwq];clear hwq;go_upto_if 44 with fail;go_cut [6] (fun s6 wy=>∃(id:BY),nameP id=true/\Aside (E5 wy b (.int .i64 (pr:Int)) (.string (Gj kt)) (.string id) (.slice none 0 0) (.slice none 0 0)/\Below wr.heap.size wr wy));case first=>
      by_cases h3:ki<3
      .have h3':(ki:Int)<3:=oo;have EA:=hid (HE.o.1.alloc (.cells #[.string ⟨#[97]⟩,.string ⟨#[98]⟩,.string ⟨#[98,111,120]⟩] 9));have BA:=hid (HE.o.2.alloc HE.o.2.size (.cells #[.string ⟨#[97]⟩,.string ⟨#[98]⟩,.string ⟨#[98,111,120]⟩] 9));obtain⟨e0,e1,e2,e3,e4⟩:=EA.o.cs;have f2:=EA.o.fz 2;rcases(show ki=0\/ki=1\/ki=2 by omega)with rfl|rfl|rfl;all_goals
        go_wp2_with fail;go_meet
        exact⟨_,by decide,(EA.o.set1 2 _ rfl).1,BA.o.setCell hbr _⟩
      .have h3':(3:Int)<=(ki:Int):=oo;go_wp2_with fail;go_meet
       exact⟨_,by decide,HE.o⟩
     case rest=>
      obtain⟨id,ahl,hA⟩:=hcut;have HE2:=hid hA.o;clear hA d2 d3 d4 HE;have d3:=fU HE2.o.2 HN.o.2.1;have d4:=fU HE2.o.2 HN.o.2.2;obtain⟨kc,Hkc⟩:=Nm (bK x.cls 8);have hkc:kc<8:=by rw[<-Hkc.o];exact jJ _ oo
      have PC:Hid (∀w,Calls prog 14 #[.int .i64 x.cls,.int .i64 8] w fun e w'=>e=.returned (.int .i64 (kc:Int))/\w'=w):=fun w=>by have:=TI x.cls 8 w k3 ⟨oo,oo⟩;rw[Hkc.o]at this;exact this
      go_wp2_with fail;refine pmb (PC.o _) fun wq hwq=>?_;rw[hwq];clear hwq;go_upto_if 57 with fail;go_cut [6] (fun s6 wy=>∃(cv:Av) (cl:List BY),(cl.all (fun c=>nameP c&&!decide (c=aA))=true/\cl.length<=1)/\Aside (E5 wy b (.int .i64 (pr:Int)) (.string (Gj kt)) (.string id) cv (.slice none 0 0)/\SG eX 1 (FrB wr.heap.size b wy) wy cv cl/\Below wr.heap.size wr wy));case first=>
       by_cases h5:kc<5
       .have h5':(kc:Int)<5:=oo;have hb2:=HE2.o.1.lt;have hz2:=HE2.o.2.size;rcases(show kc=0\/kc=1\/kc=2\/kc=3\/kc=4 by omega)with rfl|rfl|rfl|rfl|rfl;have EA:=hid ((HE2.o.1.alloc (.cells #[.string ⟨#[114]⟩,.string ⟨#[115,97,110,100,98,111,120]⟩,.string ⟨#[98,111,120]⟩,.string ⟨#[120]⟩,.string ⟨#[121]⟩] 9)).alloc (.cells #[.string ⟨#[114]⟩] 9));have BA:=hid ((HE2.o.2.alloc hz2 (.cells #[.string ⟨#[114]⟩,.string ⟨#[115,97,110,100,98,111,120]⟩,.string ⟨#[98,111,120]⟩,.string ⟨#[120]⟩,.string ⟨#[121]⟩] 9)).alloc An (.cells #[.string ⟨#[114]⟩] 9));have NA:=hid (heap_alloc_new (wc.alloc (.cells #[.string ⟨#[114]⟩,.string ⟨#[115,97,110,100,98,111,120]⟩,.string ⟨#[98,111,120]⟩,.string ⟨#[120]⟩,.string ⟨#[121]⟩] 9)) (.cells #[.string ⟨#[114]⟩] 9));rotate_left
        have EA:=hid ((HE2.o.1.alloc (.cells #[.string ⟨#[114]⟩,.string ⟨#[115,97,110,100,98,111,120]⟩,.string ⟨#[98,111,120]⟩,.string ⟨#[120]⟩,.string ⟨#[121]⟩] 9)).alloc (.cells #[.string ⟨#[115,97,110,100,98,111,120]⟩] 9));have BA:=hid ((HE2.o.2.alloc hz2 (.cells #[.string ⟨#[114]⟩,.string ⟨#[115,97,110,100,98,111,120]⟩,.string ⟨#[98,111,120]⟩,.string ⟨#[120]⟩,.string ⟨#[121]⟩] 9)).alloc An (.cells #[.string ⟨#[115,97,110,100,98,111,120]⟩] 9));have NA:=hid (heap_alloc_new (wc.alloc (.cells #[.string ⟨#[114]⟩,.string ⟨#[115,97,110,100,98,111,120]⟩,.string ⟨#[98,111,120]⟩,.string ⟨#[120]⟩,.string ⟨#[121]⟩] 9)) (.cells #[.string ⟨#[115,97,110,100,98,111,120]⟩] 9));rotate_left
        have EA:=hid ((HE2.o.1.alloc (.cells #[.string ⟨#[114]⟩,.string ⟨#[115,97,110,100,98,111,120]⟩,.string ⟨#[98,111,120]⟩,.string ⟨#[120]⟩,.string ⟨#[121]⟩] 9)).alloc (.cells #[.string ⟨#[98,111,120]⟩] 9));have BA:=hid ((HE2.o.2.alloc hz2 (.cells #[.string ⟨#[114]⟩,.string ⟨#[115,97,110,100,98,111,120]⟩,.string ⟨#[98,111,120]⟩,.string ⟨#[120]⟩,.string ⟨#[121]⟩] 9)).alloc An (.cells #[.string ⟨#[98,111,120]⟩] 9));have NA:=hid (heap_alloc_new (wc.alloc (.cells #[.string ⟨#[114]⟩,.string ⟨#[115,97,110,100,98,111,120]⟩,.string ⟨#[98,111,120]⟩,.string ⟨#[120]⟩,.string ⟨#[121]⟩] 9)) (.cells #[.string ⟨#[98,111,120]⟩] 9));rotate_left
        have EA:=hid ((HE2.o.1.alloc (.cells #[.string ⟨#[114]⟩,.string ⟨#[115,97,110,100,98,111,120]⟩,.string ⟨#[98,111,120]⟩,.string ⟨#[120]⟩,.string ⟨#[121]⟩] 9)).alloc (.cells #[.string ⟨#[120]⟩] 9));have BA:=hid ((HE2.o.2.alloc hz2 (.cells #[.string ⟨#[114]⟩,.string ⟨#[115,97,110,100,98,111,120]⟩,.string ⟨#[98,111,120]⟩,.string ⟨#[120]⟩,.string ⟨#[121]⟩] 9)).alloc An (.cells #[.string ⟨#[120]⟩] 9));have NA:=hid (heap_alloc_new (wc.alloc (.cells #[.string ⟨#[114]⟩,.string ⟨#[115,97,110,100,98,111,120]⟩,.string ⟨#[98,111,120]⟩,.string ⟨#[120]⟩,.string ⟨#[121]⟩] 9)) (.cells #[.string ⟨#[120]⟩] 9));rotate_left
        have EA:=hid ((HE2.o.1.alloc (.cells #[.string ⟨#[114]⟩,.string ⟨#[115,97,110,100,98,111,120]⟩,.string ⟨#[98,111,120]⟩,.string ⟨#[120]⟩,.string ⟨#[121]⟩] 9)).alloc (.cells #[.string ⟨#[121]⟩] 9));have BA:=hid ((HE2.o.2.alloc hz2 (.cells #[.string ⟨#[114]⟩,.string ⟨#[115,97,110,100,98,111,120]⟩,.string ⟨#[98,111,120]⟩,.string ⟨#[120]⟩,.string ⟨#[121]⟩] 9)).alloc An (.cells #[.string ⟨#[121]⟩] 9));have NA:=hid (heap_alloc_new (wc.alloc (.cells #[.string ⟨#[114]⟩,.string ⟨#[115,97,110,100,98,111,120]⟩,.string ⟨#[98,111,120]⟩,.string ⟨#[120]⟩,.string ⟨#[121]⟩] 9)) (.cells #[.string ⟨#[121]⟩] 9));rotate_left;all_goals
         obtain⟨e0,e1,e2,e3,e4⟩:=EA.o.cs;have f3:=EA.o.fz 3;go_wp2_with fail;go_meet
         obtain⟨p1,p2,p3,_,p5⟩:=HE2.o.1.put 3 _ _ _ hbr hz2 rfl;exact⟨_,[_],⟨by decide,by simp⟩,p1,ahh p2 oo oo Al,HE2.o.2.trans p3⟩
       .have h5':(5:Int)<=(kc:Int):=oo;go_wp2_with fail;go_meet
        exact⟨_,[],⟨rfl,by simp⟩,HE2.o.1,SG.iE _ _ _ _ _ _,HE2.o.2⟩
      case rest=>
       obtain⟨cv,cl,hcl,hA⟩:=hcut;have Pv:=hid hA.o;clear hA d3 d4 HE2;obtain⟨ca,cc,hcv⟩:=Pv.o.2.1.form;subst hcv;have d4:=fU Pv.o.2.2 HN.o.2.2;have hq1: -9223372036854775808<=Int.tdiv x.attr 3/\Int.tdiv x.attr 3<=9223372036854775807:=by
        have hk:=k4;unfold Ql at hk;rcases Int.le_total 0 x.attr with h0|h0
        .rw[Int.tdiv_eq_ediv_of_nonneg h0];omega
        .have e:Int.tdiv x.attr 3 = -(Int.tdiv (-x.attr) 3):=by rw[Int.neg_tdiv];simp
         rw[e,Int.tdiv_eq_ediv_of_nonneg oo];omega
       obtain⟨ka,Hka⟩:=Nm (bK (Int.tdiv x.attr 3) 4);have hka:ka<4:=by rw[<-Hka.o];exact jJ _ oo
       have PT:Hid (∀w,Calls prog 14 #[.int .i64 (Int.tdiv x.attr 3),.int .i64 4] w fun e w'=>e=.returned (.int .i64 (ka:Int))/\w'=w):=fun w=>by have:=TI (Int.tdiv x.attr 3) 4 w hq1 ⟨oo,oo⟩;rw[Hka.o]at this;exact this
       go_upto_if 70 with fail;go_cut [6] (fun s6 wy=>∃(av:Av) (al:List (BY×BY)),(al.all (fun a=>nameP a.1&&dK a.2&&!decide (a.1=aA))=true/\al.length<=1)/\Aside (E5 wy b (.int .i64 (pr:Int)) (.string (Gj kt)) (.string id) (.slice ca cl.length cc) av/\SG eX 1 (FrB wr.heap.size b wy) wy (.slice ca cl.length cc) cl/\SG qH 2 (FrB wr.heap.size b wy) wy av al/\Below wr.heap.size wr wy));case first=>
        by_cases hm:Int.tmod x.attr 3=0
        .have hmb:(Int.tmod x.attr 3==0)=true:=by simp[hm]
         have hz3:=Pv.o.2.2.size;have g4:(wc.alloc (.cells #[.string ⟨#[118]⟩,.string ⟨#[118,32,119]⟩,.string ⟨#[]⟩,.string ⟨#[119,118]⟩] 9)).cell? ⟨g,o+i*5+4,none⟩=some (.int .i64 x.attr):=fU (Ax.alloc nl _) d4;rcases(show ka=0\/ka=1\/ka=2\/ka=3 by omega)with rfl|rfl|rfl|rfl;have EA:=hid ((Pv.o.1.alloc (.cells #[.string ⟨#[118]⟩,.string ⟨#[118,32,119]⟩,.string ⟨#[]⟩,.string ⟨#[119,118]⟩] 9)).alloc (.cells #[.string ⟨#[107]⟩,.string ⟨#[118]⟩] 96));rotate_left;have EA:=hid ((Pv.o.1.alloc (.cells #[.string ⟨#[118]⟩,.string ⟨#[118,32,119]⟩,.string ⟨#[]⟩,.string ⟨#[119,118]⟩] 9)).alloc (.cells #[.string ⟨#[107]⟩,.string ⟨#[118,32,119]⟩] 96));rotate_left
         have EA:=hid ((Pv.o.1.alloc (.cells #[.string ⟨#[118]⟩,.string ⟨#[118,32,119]⟩,.string ⟨#[]⟩,.string ⟨#[119,118]⟩] 9)).alloc (.cells #[.string ⟨#[107]⟩,.string ⟨#[]⟩] 96));rotate_left;have EA:=hid ((Pv.o.1.alloc (.cells #[.string ⟨#[118]⟩,.string ⟨#[118,32,119]⟩,.string ⟨#[]⟩,.string ⟨#[119,118]⟩] 9)).alloc (.cells #[.string ⟨#[107]⟩,.string ⟨#[119,118]⟩] 96));rotate_left;all_goals
          obtain⟨e0,e1,e2,e3,e4⟩:=EA.o.cs;have f4:=EA.o.fz 4;go_wp2_with fail;refine pmb (PT.o _) fun wq hwq=>?_;rw[hwq];clear hwq;go_wp2_with fail;go_meet
          obtain⟨p1,p2,p3,p4,p5⟩:=Pv.o.1.am0 4 _ _ _ hbr hz3 rfl;exact⟨_,[(_,_)],⟨by decide,by simp⟩,p1,Pv.o.2.1.keep eX.fair (fun q hq=>⟨hq.1,by have:=hq.2.1;omega,hq.2.2⟩) (fun q hq=>p4 q hq.2.1 hq.2.2),ahi p2 oo (by have:=Pv.o.1.lt;omega) Al Al,Pv.o.2.2.trans p3⟩
        .have hmb:(Int.tmod x.attr 3==0)=false:=by simp[hm]
         go_wp2_with fail;go_meet
         exact⟨_,[],⟨rfl,by simp⟩,Pv.o.1,Pv.o.2.1,SG.iE _ _ _ _ _ _,Pv.o.2.2⟩
       case rest=>
        obtain⟨av,al,hal,hA⟩:=hcut;have HE4:=hid hA.o;clear hA d4 Pv HN;obtain⟨aa,ac,hav⟩:=HE4.o.2.2.1.form;subst hav;obtain⟨e0,e1,e2,e3,e4⟩:=HE4.o.1.cs;have hsc:=HE4.o.2.2.2.size;obtain⟨nc,Hnc⟩:=Nm cl.length;obtain⟨na,Hna⟩:=Nm al.length;obtain⟨tg,Htg⟩:=Nm (Gj kt);have HTG:=hid (ahk kt);rw[Htg.o]at HTG;rw[Hnc.o,Hna.o,Htg.o]at HE4;rw[Hnc.o]at e3;rw[Hna.o]at e4;rw[Htg.o]at e1
        have HX:Hid (wO (oD wr.heap.size wc) wc ⟨(pr:Int),tg,id,cl,al⟩ [.int .i64 (pr:Int),.string tg,.string id,.slice ca nc cc,.slice aa na ac]):=⟨_,_,rfl,HE4.o.2.1.keep eX.fair (fun q hq=>⟨hq.1,hq.2.1⟩) (fun _ _=>rfl),HE4.o.2.2.1.keep qH.fair (fun q hq=>⟨hq.1,hq.2.1⟩) (fun _ _=>rfl),by have:=HTG.o.2.2;show tg.size<=_;omega,by have:id.size<=12:=(by unfold nameP at ahl;simp at ahl;exact ahl.2);show id.size<=_;omega,by show _<=(pr:Int);omega,by show(pr:Int)<=_;omega⟩;have M4:=hid (HC.o.1.below wO.fair HE4.o.2.2.2);have PA:∀o,Hid (wO (DZ w.heap.size (wc.alloc o) (.slice ua (i+1) uc)) (wc.alloc o) ⟨(pr:Int),tg,id,cl,al⟩ [.int .i64 (pr:Int),.string tg,.string id,.slice ca nc cc,.slice aa na ac]):=fun o=>HC.o.1.apart wO.fair HX.o hsr Ab (fun g hg=>Below.heap_alloc _ _ _ hg)
        obtain⟨cs,hown,pX⟩:=M4.o.alloc wO.fair (.cells #[.int .i64 (pr:Int),.string tg,.string id,.slice ca nc cc,.slice aa na ac] 35);have HO:Hid ((wc.alloc (.cells #[.int .i64 (pr:Int),.string tg,.string id,.slice ca nc cc,.slice aa na ac] 35)).ownsRow w.heap.size 35 5 (.slice ua (i+1) uc) (i+1) cs):=by have h:=hown;rw[hdl]at h;exact h
        have Wx:=hid pX;clear hown pX;go_wp2_with(at_builtin;go_must(refine wpList_append_own_at _ rfl _ _ 22 rfl w.heap.size 35 iT (.agg #[.int .i64 0,.string ⟨#[]⟩,.string ⟨#[]⟩,.slice none 0 0,.slice none 0 0]) 5 88 Tryz.underlying22 HI.o.1 HI.o.2.1 HI.o.2.2.1 HI.o.2.2.2 rfl oo (.slice ua (i+1) uc) (i+1) cs rfl HO.o ⟨wc.heap.size,0,none⟩ 1 1 [.int .i64 (pr:Int),.string tg,.string id,.slice ca nc cc,.slice aa na ac] rfl rfl (alP _ _ _ _ _ _ _) (by simp[Value.oneCell']) As oo An ?_));intro v5 w5 hown5 hgr5 _ TV;have hlo:∀rr,(Value.slice ua (i+1) uc).ownBlock=some rr->w.heap.size<=rr:=fun rr hr=>(HO.o.lt rr hr).1;have hb5:Below w.heap.size wc w5:=(Ax.alloc oo _).grown hgr5 An hlo
        have yE:w5.ownsRow w.heap.size 35 5 v5 (d.length+1) (cs++[.int .i64 (pr:Int),.string tg,.string id,.slice ca nc cc,.slice aa na ac]):=by rw[hdl];exact hown5
        have M5:=hid (MG.snoc wO.fair Wx.o (PA _).o yE hgr5 (by simpa using TV));have X5:=hid (HC.o.2.2.trans ((HE4.o.2.2.2.mono hsr).trans hb5));have G5:Hid (pgI (d++[⟨(pr:Int),tg,id,cl,al⟩])):=⟨JZ d 0 _ HC.o.2.1.1 (by unfold xC;simp only[Bool.and_eq_true,Bool.not_eq_true',decide_eq_true_eq,decide_eq_false_iff_not];refine⟨⟨⟨⟨⟨⟨⟨HTG.o.1,HTG.o.2.1⟩,ahl⟩,by have:=hcl.2;show cl.length<=4;omega⟩,by have:=hal.2;show al.length<=4;omega⟩,?_⟩,hcl.1⟩,hal.1⟩;rw[if_neg oo];simp only[Bool.and_eq_true,decide_eq_true_eq];exact⟨oo,oo⟩),by rw[List.getElem?_append_left oo];exact HC.o.2.1.2⟩
        clear hown5 yE hgr5 TV hb5 hlo PA;go_wp2_with fail;go_roundg(gk-1);case measure=>omega
        case rel=>exact⟨v5,i+1,d++[⟨(pr:Int),tg,id,cl,al⟩],rfl,by congr 1,oo,oo,by simp[hdl],M5.o,G5.o,X5.o⟩
   .have h2:(29:Int)<=(i:Int):=oo;have HP:Hid (iL d=true):=by
     show _=_;unfold iL;simp only[Bool.and_eq_true,decide_eq_true_eq];exact⟨⟨oo,oo⟩,HC.o.2.1.1⟩
    go_wp2_with fail;go_ret;exact⟨_,_,rfl,HC.o.1,HP.o,⟨oo,HC.o.2.1.2⟩,HC.o.2.2⟩
  .have h1:(n:Int)<=(i:Int):=oo;have HP:Hid (iL d=true):=by
    show _=_;unfold iL;simp only[Bool.and_eq_true,decide_eq_true_eq];exact⟨⟨oo,oo⟩,HC.o.2.1.1⟩
   go_wp2_with fail;go_ret;exact⟨_,_,rfl,HC.o.1,HP.o,⟨oo,HC.o.2.1.2⟩,HC.o.2.2⟩
theorem ajZ(n:Nat)(f:Nat->XF)(a:Option Addr)(cap:Nat)(B:Nat)(w:WD)(h:XG B w a n f)(hB:B<=w.heap.size):
  Calls prog 22 #[.slice a n cap] w fun e w'=>∃(u:Av) (d:aI),e=.returned u/\SG wO 5 (oD w.heap.size w') w' u d/\iL d=true/\Below w.heap.size w w':=
 (ajY n f a cap B w h hB).mono fun e w' ⟨u,d,h1,h2,h3,h4,h5⟩=>⟨u,d,h1,h2.sl wO.fair wO.sized (by have:=h4.1;omega),h3,h5⟩
end Go.Proofs.YtlliliddljkbfaaGreat
namespace Go.Proofs.YtlliliddljkbfaaGreat.Sp
section
mutual
def ddS:Simple->Nat->Prop
 |.mk k nm _ _ l _,D=>(k=91->1<=D)/\((k≠116/\k≠35/\k≠46/\k≠91)->((nm=nD\/nm=DY)->1<=D/\TW l (D-1))/\(nm=nG->1<=D))
def L8:List Simple->Nat->Prop
 |[],_=>True
 |s::r,D=>ddS s D/\L8 r D
def ddT:Nat×List Simple->Nat->Prop
 |(_,all),D=>L8 all D
def ddC:List (Nat×List Simple)->Nat->Prop
 |[],_=>True
 |t::r,D=>ddT t D/\ddC r D
def TW:List (List (Nat×List Simple))->Nat->Prop
 |[],_=>True
 |c::r,D=>ddC c D/\TW r D
end
theorem J3(D:Nat):∀(a b:List Simple),L8 a D->L8 b D->L8 (a++b) D
 |[],_,_,h=>h
 |s::r,b,h,k=>by simp only[L8]at h;rw[List.cons_append];simp only[L8];exact⟨h.1,J3 D r b h.2 k⟩
theorem J5{D k:Nat}{w:BY}(h:k=116\/k=35\/k=46):ddS (Simple.of k w) D:=by unfold Simple.of;simp only[ddS];exact⟨fun e=>by omega,fun e=>by omega⟩
theorem uK{D:Nat}{a:List Simple}{s:Simple}(h:L8 a D)(k:ddS s D):L8 (a++[s]) D:=J3 D a [s] h (by simp only[L8];exact⟨k,trivial⟩)
theorem dU(n:Nd)(r:List Nd):depth (n::r)=max (eU n) (depth r):=by rw[depth]
theorem NG(n:Nd):eU n=if closing n.t=aA then 0 else depth n.kids+1:=by obtain⟨t,k⟩:=n;rw[eU];rfl
theorem mG{D:Nat}{l:List Nd}(h:depth l<=D):∀n∈l,eU n<=D:=by
 induction l with
 |nil=>simp
 |cons m r ih=>
  rw[dU]at h;intro n hn;rcases List.mem_cons.1 hn with rfl|hn
  .omega
  .exact ih oo n hn
theorem qh{D:Nat}{l:List Nd}(h:∀n∈l,eU n<=D):depth l<=D:=by
 induction l with
 |nil=>simp[depth]
 |cons m r ih=>rw[dU];have h1:=h m Ab;have h2:=ih fun n hn=>h n (by simp[hn]);omega
theorem TY{n:Nd}(h:dN n (b1 91)=true):1<=eU n:=by
 unfold dN au at h;simp only[Bool.and_eq_true,decide_eq_true_eq]at h;rw[NG];have hc:closing n.t≠aA:=by unfold closing;rw[if_neg oo,if_pos h.1,h.2,if_neg (by decide),if_pos rfl];decide
 rw[if_neg hc];omega
theorem abb{n:Nd}(h:n.t.kind=11):eU n=depth n.kids+1:=by
 rw[NG];have hc:closing n.t≠aA:=by unfold closing;rw[if_pos h];decide
 rw[if_neg hc]
theorem ael{l:List Nd}{s:Simple}(h:gG l=some s):∃nm how v,s=.mk 91 nm how v [] 0:=by
 unfold gG at h;split at h
 .cases h
 .split at h
  .cases h
  .simp only at h;split at h
   .cases h;exact⟨_,_,_,rfl⟩
   .split at h
    .cases h
    .split at h
     .cases h
     .split at h
      .split at h
       .cases h;exact⟨_,_,_,rfl⟩
       .cases h
      .cases h
theorem Ua{D:Nat}{l:List Nd}{s:Simple}(h:gG l=some s)(hD:1<=D):ddS s D:=by obtain⟨nm,how,v,rfl⟩:=ael h;simp only[ddS];exact⟨fun _=>hD,fun e=>by omega⟩
section
variable {rec:List Nd->Option bY} (hrec : ∀ l ss D,rec l=some ss->depth l<=D->TW ss D)
include hrec
theorem abd{D:Nat}{n:Nd}{s:Simple}(h:bM rec n=some s)(hD:eU n<=D):ddS s D:=by
 unfold bM at h;simp only at h;split at h
 .split at h
  .rename_i hw;cases h;unfold Simple.of;simp only[ddS];refine⟨fun e=>by omega,fun _=>⟨fun e=>?_,fun e=>?_⟩⟩
   .exfalso
    rcases hw with hw|hw|hw|hw<;>rw[hw]at e<;>revert e<;>decide
   .exfalso
    rcases hw with hw|hw|hw|hw<;>rw[hw]at e<;>revert e<;>decide
  .cases h
 split at h
 .cases h
 rename_i hk;have hf:=abb (n:=n) (by simpa using hk);split at h
 .cases hr:rec n.kids with
  |none=>rw[hr]at h;cases h
  |some ss=>rw[hr]at h;simp at h;subst h;simp only[ddS];exact⟨fun e=>by omega,fun _=>⟨fun _=>⟨oo,hrec _ _ _ hr oo⟩,fun _=>by omega⟩⟩
 split at h
 .split at h
  .rename_i v hv;cases hp:placeOf v.t with
   |none=>rw[hp]at h;cases h
   |some pl=>rw[hp]at h;simp at h;subst h;simp only[ddS];exact⟨fun e=>by omega,fun _=>⟨fun _=>⟨oo,trivial⟩,fun _=>by omega⟩⟩
  .cases h
 .cases h
theorem aem(D:Nat)(n:Nat):∀(acc:List Simple) (l:List Nd) (all:List Simple) (r:List Nd),l.length<=n->depth l<=D->L8 acc D->bZ rec acc l=some (all,r)->L8 all D/\depth r<=D:=by
 induction n with
 |zero=>intro acc l all r hl hn ha h;obtain rfl:l=[]:=List.eq_nil_of_length_eq_zero oo;simp[bZ]at h;obtain⟨rfl,rfl⟩:=h;exact⟨ha,hn⟩
 |succ n ih=>
  intro acc l all r hl hn ha h;match l,hl,hn,h with
  |[],_,hn,h=>simp[bZ]at h;obtain⟨rfl,rfl⟩:=h;exact⟨ha,hn⟩
  |[m],_,hn,h=>
   have hm:=mG hn m Ab;unfold bZ at h;split at h
   .cases h;exact⟨uK ha (J5 oo),by simp[depth]⟩
   split at h
   .cases h
   split at h
   .rename_i hb;split at h
    .cases h
    .rename_i s hs;have:=TY hb;cases h;exact⟨uK ha (Ua hs oo),by simp[depth]⟩
   split at h
   .cases h
   .cases h;exact⟨ha,hn⟩
  |m::q::r',hl,hn,h=>
   simp only[List.length_cons]at hl;have hm:=mG hn m Ab;have hq:=mG hn q Ab;have h1:depth (q::r')<=D:=by rw[dU]at hn;omega
   have h2:depth r'<=D:=by rw[dU]at h1;omega
   unfold bZ at h;split at h
   .exact ih _ _ _ _ An h1 (uK ha (J5 oo)) h
   split at h
   .split at h
    .exact ih _ _ _ _ oo h2 (uK ha (J5 oo)) h
    .cases h
   split at h
   .rename_i hb;split at h
    .cases h
    .rename_i s hs;have:=TY hb;exact ih _ _ _ _ An h1 (uK ha (Ua hs oo)) h
   split at h
   .split at h
    .cases h
    .rename_i s hs;exact ih _ _ _ _ oo h2 (uK ha (abd hrec hs hq)) h
   .cases h;exact⟨ha,hn⟩
theorem Ub{D:Nat}{l:List Nd}{all:List Simple}{r:List Nd}(hn:depth l<=D)(h:aZ rec l=some (all,r)):L8 all D/\depth r<=D:=by
 unfold aZ at h;have ht:depth (kP l).2<=D/\L8 (kP l).1 D:=by
  unfold kP;split
  .exact⟨by simp[depth],by simp[L8]⟩
  .rename_i m q;have hq:depth q<=D:=by rw[dU]at hn;omega
   split
   .exact⟨hq,by simp only[L8];exact⟨J5 oo,trivial⟩⟩
   split
   .exact⟨hq,by simp only[L8];exact⟨J5 oo,trivial⟩⟩
   .exact⟨hn,by simp[L8]⟩
 exact aem hrec D _ _ _ _ _ nl ht.1 ht.2 h
omit hrec in
theorem ahm{D:Nat}{l r:List Nd}{c:Nat}(hn:depth l<=D)(h:gU l=some (c,r)):depth r<=D:=by
 have hs:∀x∈r,x∈l:=by
  unfold gU at h;split at h
  .split at h
   .cases h
   .cases h;simp
  .rename_i n q hq;have h1:∀x∈n::q,x∈l:=fun x hx=>ku l x (by rw[hq];exact hx);have h2:∀x∈aH q,x∈l:=fun x hx=>h1 x (List.mem_cons_of_mem _ (ku q x hx));split at h
   .cases h;exact h2
   split at h
   .cases h;exact h2
   split at h
   .cases h;exact h2
   split at h
   .cases h;exact h1
   .cases h
 exact qh fun n hn'=>mG hn n (hs n hn')
theorem J6{D:Nat}:∀(f b:Nat) (l:List Nd) (ss:List Step),depth l<=D->bD rec f b l=some ss->ddC ss D
 |0,_,_,_,_,h=>by simp[bD]at h
 |f+1,b,l,ss,hn,h=>by
  unfold bD at h;split at h
  .cases h
  .rename_i all r hc;have h1:=Ub hrec hn hc;split at h
   .cases h
   .split at h
    .cases h;simp only[ddC,ddT];exact⟨h1.1,trivial⟩
    .split at h
     .cases h
     .rename_i c r' hcb;have h2:=ahm h1.2 hcb;cases hx:bD rec f c r' with
      |none=>rw[hx]at h;cases h
      |some x=>rw[hx]at h;simp at h;subst h;simp only[ddC,ddT];exact⟨h1.1,J6 f c r' x h2 hx⟩
theorem Zg{D:Nat}:∀(ps:List (List Nd)) (ss:bY),(∀p∈ps,depth p<=D)->fZ rec ps=some ss->TW ss D
 |[],ss,_,h=>by simp[fZ]at h;subst h;simp[TW]
 |p::r,ss,hp,h=>by
  unfold fZ at h;split at h
  .cases h
  .rename_i s hs;cases hx:fZ rec r with
   |none=>rw[hx]at h;cases h
   |some x=>rw[hx]at h;simp at h;subst h;simp only[TW];have hb:depth (bare p)<=D:=qh fun n hn=>mG (hp p Ab) n (nP p n hn);exact⟨J6 hrec _ _ _ _ hb hs,Zg r x (fun q hq=>hp q (by simp[hq])) hx⟩
end
theorem Pz{D:Nat}:∀(l:List Nd) (out:List (List Nd)) (cur:List Nd),(∀p∈out,depth p<=D)->(∀n∈cur,eU n<=D)->(∀n∈l,eU n<=D)->∀p∈iZ out cur l,depth p<=D
 |[],out,cur,ho,hc,_=>by
  unfold iZ;intro p hp;rcases List.mem_append.1 hp with hp|hp
  .exact ho p hp
  .rw[List.mem_singleton.1 hp];exact qh hc
 |n::r,out,cur,ho,hc,hl=>by
  unfold iZ;split
  .refine Pz r _ _ (fun p hp=>?_) Ab fun m hm=>hl m (by simp[hm]);rcases List.mem_append.1 hp with hp|hp
   .exact ho p hp
   .rw[List.mem_singleton.1 hp];exact qh hc
  .refine Pz r _ _ ho (fun m hm=>?_) fun m hm=>hl m (by simp[hm]);rcases List.mem_append.1 hm with hm|hm
   .exact hc m hm
   .rw[List.mem_singleton.1 hm];exact hl n Ab
theorem Zh{rec:List Nd->Option bY}(hrec:∀l ss D,rec l=some ss->depth l<=D->TW ss D){D:Nat}{l:List Nd}{ss:bY}(h:oz rec l=some ss)(hn:depth l<=D):TW ss D:=by
 unfold oz at h;split at h
 .cases h
 .exact Zg hrec _ _ (Pz l [] [] Ab Ab (mG hn)) h
theorem aen:∀(f:Nat) (l:List Nd) (ss:bY) (D:Nat),lM f l=some ss->depth l<=D->TW ss D
 |0,l,ss,D,h,hn=>Zh (rec:=fun _=>none) (fun _ _ _ h=>by cases h) h hn
 |f+1,l,ss,D,h,hn=>Zh (rec:=lM f) (fun l ss D h1 h2=>aen f l ss D h1 h2) h hn
end
