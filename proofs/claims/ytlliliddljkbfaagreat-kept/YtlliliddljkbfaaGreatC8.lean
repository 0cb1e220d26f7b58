import Derived.Test.YtlliliddljkbfaaGreatC7
set_option maxHeartbeats 64000000
set_option maxRecDepth 100000
namespace Go.Proofs.YtlliliddljkbfaaGreat.Sp
theorem J9(stop:Nd->Bool):∀(a:List Nd) (b:Nd) (r:List Nd),(∀n∈a,stop n=false)->stop b=true->bG stop (a++b::r)=(a,some b,r)
 |[],b,r,_,hb=>by show bG stop (b::r)=_;unfold bG;rw[if_pos hb]
 |n::a,b,r,h,hb=>by rw[List.cons_append];unfold bG;rw[if_neg (by rw[h n (by simp)];simp),J9 stop a b r (fun m hm=>h m (by simp[hm])) hb]
theorem Ko(sh:Bool){f:Nat}{l:List Nd}(h:l.length<=f):fM f sh l=rules sh l:=xQ sh f l.length l h nl
theorem abl{h:List Nd}{b:Nd}(hf:∀n q,h=n::q->oG true n=false/\n.t.kind≠10)(hb:∀m∈h,aK m=false)(hbb:aK b=true)(rest:List Nd):rules true (h++b::rest)=⟨none,h,some b.kids⟩::rules true rest:=by
 have acH:b.t.kind=15:=by unfold aK dN au at hbb;simp only[Bool.and_eq_true,decide_eq_true_eq]at hbb;exact hbb.1
 obtain⟨n,q,e,hn⟩:∃n q,h++b::rest=n::q/\oG true n=false/\n.t.kind≠10:=by
  match h,hf with
  |[],_=>exact⟨b,rest,rfl,by unfold oG iH;simp[acH],oo⟩
  |n::q,hf=>exact⟨n,q++b::rest,rfl,hf n q rfl⟩
 have hc:=J9 aK h b rest hb hbb;rw[e]at hc;rw[e];show fM (q.length+1) true (n::q)=_;unfold fM;rw[if_neg (by rw[hn.1];simp),if_neg hn.2,hc];simp only;rw[Ko true];have:=congrArg List.length e;simp only[List.length_append,List.length_cons]at this;omega
def bodyT:List UInt8:=[33,37,40,42,43,44,45,46,47,58,59,61,91,123]
def mJ(D:Nat)(C:List UInt8->Prop)(o:BY):Prop:=∃ps,o.data.toList=flat ps/\(∀X,C X->Good ps X)/\su D bodyT ps
theorem mJ.nil(D:Nat)(C:List UInt8->Prop):mJ D C aA:=⟨[],rfl,fun _ _=>trivial,su.nil _ _⟩
theorem mJ.append{k:Nat}{C D:List UInt8->Prop}{a b:BY}(ha:mJ k C a)(hb:mJ k D b)(h:∀X,D X->C (b.data.toList++X)):mJ k D (a++b):=by obtain⟨pa,a1,a2,a3⟩:=ha;obtain⟨pb,b1,b2,b3⟩:=hb;exact⟨pa++pb,by rw[kV,a1,b1,aN],fun X hX=>(a2 _ (by rw[<-b1];exact h X hX)).append (b2 X hX),a3.append b3⟩
theorem mJ.wide{k:Nat}{C D:List UInt8->Prop}{a:BY}(ha:mJ k C a)(h:∀X,D X->C X):mJ k D a:=by obtain⟨pa,a1,a2,a3⟩:=ha;exact⟨pa,a1,fun X hX=>a2 X (h X hX),a3⟩
theorem PE{D:Nat}(C:List UInt8->Prop){c:UInt8}(h:c∈lT/\c≠43/\c≠45/\c≠46/\c≠47)(h2:c≠40/\c≠91/\c≠123)(h3:c∈bodyT):mJ D C (b1 c):=⟨[.sign c],rfl,fun _ _=>fK h trivial,uM h2 h3⟩
theorem alS{p:aF}{t:Tok}{k:List Nd}(h:vT p t k)(e:t.kind=15):∃c∈bodyT,t.word=b1 c:=by
 have hh:=h.harm;unfold oI at hh;rw[if_neg oo,if_pos e]at hh;rcases jo e with c|⟨c,_⟩|⟨c,_⟩|⟨c,_⟩
 .rw[c]at hh;simp only[decide_true,Bool.not_true,Bool.false_or]at hh;unfold vk at hh;simp only[Bool.or_eq_true,decide_eq_true_eq]at hh;rcases hh with (((((((h|h)|h)|h)|h)|h)|h)|h)|h<;>exact⟨_,by decide,h⟩
 .exact⟨40,by decide,c⟩
 .exact⟨91,by decide,c⟩
 .exact⟨123,by decide,c⟩
theorem aew{D:Nat}{p:aF}{a:Option Tok}{l:List Nd}(h:vL p l)(hD:depth l<=D):su D bodyT (zZ a l):=by obtain⟨ns,h1,h2,h3⟩:=ndF p a l h;refine⟨ns,h1,fun m hm hk=>?_,oo⟩;obtain⟨n,n1,n2,n3⟩:=h2 m hm hk;obtain⟨c,hc,e⟩:=alS ((EJ p n).1 ((Xf p l).1 h n n1)).1 n2;exact⟨c,hc,by rw[<-n3,e]⟩
theorem ahn{D:Nat}{p:aF}{l:List Nd}(h:vL p l)(hD:depth l<=D):mJ D LZ (written l):=⟨zZ none l,Dw p none l h,fun X hX=>Td p none l X h hX,aew h hD⟩
theorem Uh{D:Nat}{w:BY}(h:0<w.size):mJ D (fun X=>iw (jy X)) (dP w):=⟨[.ident w],by rw[pR];simp[flat,Pc.bytes],fun _ hX=>⟨h,nV hX,trivial⟩,iF rfl (qA Ab)⟩
theorem aj2{D:Nat}{p:aF}{d:Dec}(h0:0<d.prop.size)(h:vL p d.val)(hD:depth d.val<=D):mJ D LZ (jW d):=by
 have hi:mJ D LZ (if d.imp=true then ZX else aA):=by
  split
  .rw[adN];exact(PE ajC Ab Ab Ab).append ((Uh Ab).wide fun X=>agL) fun _ _=>trivial
  .exact mJ.nil _ _
 have hv:mJ D LZ (written d.val++(if d.imp=true then ZX else aA)):=(ahn h hD).append hi fun X hX=>by
  split
  .exact⟨rfl,show(33:Int)≠32 by decide⟩
  .exact hX
 unfold jW;exact(Uh h0).append ((PE ajC Ab Ab Ab).append hv fun _ _=>trivial) fun X _=>by rw[kV];exact(show iw 58 by unfold iw;decide)
theorem Zk{D:Nat}:∀(l:List BY),(∀o∈l,mJ D LZ o)->mJ D LZ (jX (b1 59) l)
 |[],_=>mJ.nil _ _
 |[a],h=>h a Aa
 |a::b::r,h=>by
  show mJ D LZ (a++(b1 59++jX (b1 59) (b::r)));have ih:=Zk (b::r) fun o ho=>h o (by simp[List.mem_cons.1 ho]);exact(h a Aa).append ((PE ajC Ab Ab Ab).append ih fun _ _=>trivial) fun X _=>by rw[kV];exact⟨rfl,show(59:Int)≠32 by decide⟩
theorem aho{D:Nat}{p:aF}{l:List Nd}(hg:gL l)(hu:uL l)(hD:depth l<=D):mJ D LZ (tX p l):=by unfold tX;refine Zk _ fun o ho=>?_;obtain⟨d,hd,rfl⟩:=List.mem_map.1 ho;obtain⟨hd1,hd2⟩:=List.mem_filter.1 hd;have hs:=(Dl l).2 d hd1;unfold kR at hd2;simp only[Bool.and_eq_true]at hd2;exact aj2 (Dy _ l hg d hd1) (aiu (qw hg hs) (OV hu hs) hd2.1.2) (qh fun n hn=>mG hD n (hs n hn))
theorem NK{ps:List Pc}{ns:List Nd}(h:sJ (dA ps) ns)(hn:∀n∈ns,au n.t (b1 125)=false):sJ (dA (.sign 123::(ps++[.sign 125]))) [.mk (Tok.w 15 (b1 123)) ns]:=by
 have hc:closing (Tok.w 15 (b1 123))=b1 125:=by decide
 have e:dA (.sign 123::(ps++[.sign 125]))=Tok.w 15 (b1 123)::(dA ps++[Tok.w 15 (closing (Tok.w 15 (b1 123)))]):=by rw[hc];show Tok.w 15 (b1 123)::dA (ps++[.sign 125])=_;rw[cO];rfl
 rw[e];exact h.block (by rw[hc];exact OW 125) (by rw[hc];exact hn)
theorem Kq(ns:List Nd):aK (.mk (Tok.w 15 (b1 123)) ns)=true:=by unfold aK dN au;simp[Tok.w]
def kF(p:aF):List Nd:=if p.root=aA then [] else zH p.root
theorem aj3{w:BY}(h:w.data.toList.all jh=true):vZ w=w:=adL fun c hc e=>by have:=List.all_eq_true.1 h c hc;unfold jh at this;simp at this;omega
theorem abm{p:aF}(h:p.root.data.toList.all jh=true):sJ (dA (rW p)) (kF p):=by
 unfold rW kF;split
 .exact sJ.nil
 .have e:dA [.sign 46,.ident p.root,.blank]=[Tok.w 15 (b1 46)]++([Tok.w 14 p.root]++[Tok.k 1]):=by
   show [Tok.w 15 (b1 46),Tok.w 14 (vZ p.root),Tok.k 1]=_;rw[aj3 h];rfl
  rw[e];exact(sJ.leaf (wE Ab)).append ((sJ.leaf (dV (qA Ab))).append (sJ.leaf (dV (wY Ab))))
theorem Uj{D:Nat}(PA:List Nd)(hPA:∀n∈PA,DK (44::DL) n):∀(xs:List (List Nd)),(∀x∈xs,L9 D x)->∀n∈uO PA xs,DK (44::DL) n
 |[],_,n,hn=>by cases hn
 |x::r,h,n,hn=>by
  unfold uO at hn;rcases List.mem_cons.1 hn with rfl|hn
  .exact fun _=>⟨44,by decide,rfl⟩
  .rcases List.mem_append.1 hn with hn|hn
   .exact hPA n hn
   .rcases List.mem_append.1 hn with hn|hn
    .obtain⟨_,_,_,h2,_⟩:=h x Aa;exact(h2 n hn).mono fun c hc=>List.mem_cons_of_mem _ hc
    .exact Uj PA hPA r (fun y hy=>h y (by simp[hy])) n hn
theorem aex{D:Nat}(PA:List Nd)(hPA:∀n∈PA,DK (44::DL) n)(xs:List (List Nd))(h:∀x∈xs,L9 D x):∀n∈pI PA xs,DK (44::DL) n:=by
 match xs,h with
 |[],_=>intro n hn;cases hn
 |x::r,h=>
  intro n hn;unfold pI at hn;rcases List.mem_append.1 hn with hn|hn
  .exact hPA n hn
  .rcases List.mem_append.1 hn with hn|hn
   .obtain⟨_,_,_,h2,_⟩:=h x Aa;exact(h2 n hn).mono fun c hc=>List.mem_cons_of_mem _ hc
   .exact Uj PA hPA r (fun y hy=>h y (by simp[hy])) n hn
theorem XH(p:aF):∀n∈kF p,DK (44::DL) n:=by
 unfold kF;split
 .intro n hn;cases hn
 .intro n hn;unfold zH at hn;simp only[List.mem_cons,List.not_mem_nil,or_false]at hn;rcases hn with rfl|rfl|rfl
  .exact fun _=>⟨46,by decide,rfl⟩
  .exact fun h=>by cases h
  .exact fun h=>by cases h
theorem abn{n:Nd}(h:abg n):oG true n=false/\n.t.kind≠10:=by
 unfold oG iH;rcases h with h|h|h
 .simp[h]
 .simp[h]
 .simp[h.1]
theorem XK{D:Nat}(p:aF)(xs:List (List Nd))(h:∀x∈xs,L9 D x):∀n q,pI (kF p) xs=n::q->oG true n=false/\n.t.kind≠10:=by
 intro n q e;match xs,h with
 |[],_=>cases e
 |x::r,h=>
  by_cases hr:p.root=aA
  .have ea:kF p=[]:=by unfold kF;rw[if_pos hr]
   rw[ea]at e;obtain⟨m,s,rfl,_,hf,_⟩:=h x Aa;have e2:m::(s++uO [] r)=n::q:=e;rw[<-(List.cons.inj e2).1];exact abn hf
  .have ea:kF p=zH p.root:=by unfold kF;rw[if_neg hr]
   rw[ea]at e;have e2:abk::([Bo p.root,PD]++(x++uO (zH p.root) r))=n::q:=e;rw[<-(List.cons.inj e2).1];decide
end Go.Proofs.YtlliliddljkbfaaGreat.Sp
namespace Go.Proofs.YtlliliddljkbfaaGreat
open Go.Proofs.Tryz (prog)
open Go.RowKit Sp
def DC(x y z:Int):Av:=.agg #[.int .i64 x,.int .i64 y,.int .i64 z]
def W3(w:WD)(b:Nat)(x y z:Int):Prop:=w.heap[b]?=some (.cells #[.int .i64 x,.int .i64 y,.int .i64 z] 177 (0,0))
theorem W3.cs{w:WD}{b:Nat}{x y z:Int}(h:W3 w b x y z):w.cell? ⟨b,0,none⟩=some (.int .i64 x)/\w.cell? ⟨b,1,none⟩=some (.int .i64 y)/\w.cell? ⟨b,2,none⟩=some (.int .i64 z):=by have h':w.heap[b]?=_:=h;refine⟨?_,?_,?_⟩<;>(unfold World.cell?;rw[h'];rfl)
theorem W3.lt{w:WD}{b:Nat}{x y z:Int}(h:W3 w b x y z):b<w.heap.size:=(Ax h)
theorem W3.fz{w:WD}{b:Nat}{x y z:Int}(h:W3 w b x y z)(k:Nat):w.frozen? ⟨b,k,none⟩=false:=by have h':w.heap[b]?=_:=h;unfold World.frozen?;rw[h'];simp
theorem W3.alloc{w:WD}{b:Nat}{x y z:Int}(h:W3 w b x y z)(o:Obj):W3 (w.alloc o) b x y z:=by unfold W3;rw[Below.heap_alloc _ _ _ h.lt];exact h
theorem W3.new(w:WD)(x y z:Int):W3 (w.alloc (.cells #[.int .i64 x,.int .i64 y,.int .i64 z] 177)) w.heap.size x y z:=heap_alloc_new w _
theorem ajI(x y z x' y' z':Int)(w:WD)(h1:0<=x/\x<=1000000)(h2:0<=y/\y<=1000000)(h3:0<=z/\z<=1000000)(k1:0<=x'/\x'<=1000000)(k2:0<=y'/\y'<=1000000)(k3:0<=z'/\z'<=1000000):
  Calls prog 225 #[DC x y z,DC x' y' z'] w fun ex w'=>ex=.returned (DC (x+x') (y+y') (z+z'))/\Below w.heap.size w w':=by
 unfold DC;have A0:Hid (W3 (((w.alloc (.cells #[.int .i64 x,.int .i64 y,.int .i64 z] 177)).alloc (.cells #[.int .i64 x',.int .i64 y',.int .i64 z'] 177)).alloc (.cells #[.int .i64 0,.int .i64 0,.int .i64 0] 177)) w.heap.size x y z):=((W3.new w x y z).alloc _).alloc _;have A1:Hid (W3 (((w.alloc (.cells #[.int .i64 x,.int .i64 y,.int .i64 z] 177)).alloc (.cells #[.int .i64 x',.int .i64 y',.int .i64 z'] 177)).alloc (.cells #[.int .i64 0,.int .i64 0,.int .i64 0] 177)) (w.heap.size+1) x' y' z'):=by have:=(W3.new (w.alloc (.cells #[.int .i64 x,.int .i64 y,.int .i64 z] 177)) x' y' z').alloc (.cells #[.int .i64 0,.int .i64 0,.int .i64 0] 177);show W3 _ _ _ _ _;simpa using this
 have A2:Hid (W3 (((w.alloc (.cells #[.int .i64 x,.int .i64 y,.int .i64 z] 177)).alloc (.cells #[.int .i64 x',.int .i64 y',.int .i64 z'] 177)).alloc (.cells #[.int .i64 0,.int .i64 0,.int .i64 0] 177)) (w.heap.size+1+1) 0 0 0):=by
  have h:=W3.new ((w.alloc (.cells #[.int .i64 x,.int .i64 y,.int .i64 z] 177)).alloc (.cells #[.int .i64 x',.int .i64 y',.int .i64 z'] 177)) 0 0 0;have e:((w.alloc (.cells #[.int .i64 x,.int .i64 y,.int .i64 z] 177)).alloc (.cells #[.int .i64 x',.int .i64 y',.int .i64 z'] 177)).heap.size=w.heap.size+1+1:=by simp
  rw[e]at h;exact h
 have B0:Hid (Below w.heap.size w (((w.alloc (.cells #[.int .i64 x,.int .i64 y,.int .i64 z] 177)).alloc (.cells #[.int .i64 x',.int .i64 y',.int .i64 z'] 177)).alloc (.cells #[.int .i64 0,.int .i64 0,.int .i64 0] 177))):=((As.alloc nl _).alloc Aa _).alloc Al _;go_in;go_wp2_with fail;generalize((w.alloc (.cells #[.int .i64 x,.int .i64 y,.int .i64 z] 177)).alloc (.cells #[.int .i64 x',.int .i64 y',.int .i64 z'] 177)).alloc (.cells #[.int .i64 0,.int .i64 0,.int .i64 0] 177)=w3 at *;obtain⟨b,Hb⟩:=Nm w.heap.size;rw[Hb.o]at A0 A1 A2 B0;rw[Hb.o];obtain⟨a0,a1,a2⟩:=A0.o.cs;obtain⟨c0,c1,c2⟩:=A1.o.cs;obtain⟨r0,r1,r2⟩:=A2.o.cs;have f0:=A0.o.fz 0;have f1:=A0.o.fz 1;have f2:=A0.o.fz 2;have g0:=A2.o.fz 0;have g1:=A2.o.fz 1;have g2:=A2.o.fz 2;refine wp_loop_rounds 4 ?_;rw[rounds_succ]
 go_wp2_with fail;go_region
 go_wp2_with fail;rw[rounds_succ];go_wp2_with fail;go_region
 go_wp2_with fail;rw[rounds_succ];go_wp2_with fail;go_region
 go_wp2_with fail;rw[rounds_succ];go_wp2_with fail;refine bodyPost_ret (v:=.agg #[.int .i64 (x+x'),.int .i64 (y+y'),.int .i64 (z+z')]) (by simp[results,Tryz.results225,go_sem,r0,r1,r2]) rfl ?_;refine⟨rfl,?_⟩;rw[Hb.o];have e:b<=b+1+1:=oo;exact((((((B0.o.setCell (p:=⟨b,0,none⟩) nl _).setCell (p:=⟨b,1,none⟩) nl _).setCell (p:=⟨b,2,none⟩) nl _).setCell (p:=⟨b+1+1,0,none⟩) e _).setCell (p:=⟨b+1+1,1,none⟩) e _).setCell (p:=⟨b+1+1,2,none⟩) e _).drew.drew.drew
theorem below_drewN{b:Nat}{w w':WD}(h:Below b w w')(n:Nat):Below b w (w'.drewN n):=⟨h.os,h.tape,h.output,h.size,h.block⟩
def Pn(x y z x' y' z':Int):Int:=if Lib.compareInt x x'=0 then(if Lib.compareInt y y'=0 then Lib.compareInt z z' else Lib.compareInt y y') else Lib.compareInt x x'
theorem ajJ(x y z x' y' z':Int)(b b':Nat)(w:WD)(h1:W3 w b x y z)(h2:W3 w b' x' y' z'):
  Calls prog 227 #[.slice (some ⟨b,0,none⟩) 3 3,.slice (some ⟨b',0,none⟩) 3 3] w fun ex w'=>ex=.returned (.int .i64 (Pn x y z x' y' z'))/\w'=w:=by
 obtain⟨a0,a1,a2⟩:=h1.cs;obtain⟨c0,c1,c2⟩:=h2.cs;obtain⟨u,Hu⟩:=Nm (Lib.compareInt x x');obtain⟨v,Hv⟩:=Nm (Lib.compareInt y y');obtain⟨t,Ht⟩:=Nm (Lib.compareInt z z');have HR:Hid (Pn x y z x' y' z'=if u=0 then(if v=0 then t else v) else u):=by show _=_;unfold Pn;rw[Hu.o,Hv.o,Ht.o]
 obtain⟨r,Hr⟩:=Nm ((if u=0 then(if v=0 then t else v) else u));rw[HR.o,Hr.o];go_in;go_wp2_with fail;refine wp_loop_rounds 4 ?_;rw[rounds_succ];go_wp2_with fail;refine(Tryz.cmp_Compare_int x x' _).mono ?_;rw[Hu.o];rintro e wq ⟨rfl,hwq⟩;rw[hwq];clear hwq;by_cases hu:u=0
 .subst hu;go_wp2_with fail;rw[rounds_succ];go_wp2_with fail;refine(Tryz.cmp_Compare_int y y' _).mono ?_;rw[Hv.o];rintro e wq ⟨rfl,hwq⟩;rw[hwq];clear hwq;by_cases hv:v=0
  .subst hv;have HE:Hid (t=r):=by have:=Hr.o;show _=_;simpa using this
   go_wp2_with fail;rw[rounds_succ];go_wp2_with fail;refine(Tryz.cmp_Compare_int z z' _).mono ?_;rw[Ht.o];rintro e wq ⟨rfl,hwq⟩;rw[hwq];clear hwq;by_cases ht:t=0
   .subst ht;go_wp2_with fail;rw[rounds_succ];go_wp2_with fail;go_ret;exact⟨by rw[<-HE.o];rfl,rfl⟩
   .have e1:(t==0)=false:=by simpa using ht
    go_wp2_with fail;go_ret;exact⟨by rw[<-HE.o];rfl,rfl⟩
  .have HE:Hid (v=r):=by have:=Hr.o;show _=_;simpa[hv]using this
   have e1:(v==0)=false:=by simpa using hv
   go_wp2_with fail;go_ret;exact⟨by rw[<-HE.o];rfl,rfl⟩
 .have HE:Hid (u=r):=by have:=Hr.o;show _=_;simpa[hu]using this
  have e1:(u==0)=false:=by simpa using hu
  go_wp2_with fail;go_ret;exact⟨by rw[<-HE.o];rfl,rfl⟩
theorem Po(x y z x' y' z':Int)(w:WD):
  Calls prog 159 #[DC x y z,DC x' y' z'] w fun ex w'=>ex=.returned (.int .i64 (Pn x y z x' y' z'))/\Below w.heap.size w w':=by
 unfold DC;have A0:Hid (W3 ((w.alloc (.cells #[.int .i64 x,.int .i64 y,.int .i64 z] 177)).alloc (.cells #[.int .i64 x',.int .i64 y',.int .i64 z'] 177)) w.heap.size x y z):=(W3.new w x y z).alloc _;have A1:Hid (W3 ((w.alloc (.cells #[.int .i64 x,.int .i64 y,.int .i64 z] 177)).alloc (.cells #[.int .i64 x',.int .i64 y',.int .i64 z'] 177)) (w.heap.size+1) x' y' z'):=by have:=W3.new (w.alloc (.cells #[.int .i64 x,.int .i64 y,.int .i64 z] 177)) x' y' z';show W3 _ _ _ _ _;simpa using this
 have B0:Hid (Below w.heap.size w ((w.alloc (.cells #[.int .i64 x,.int .i64 y,.int .i64 z] 177)).alloc (.cells #[.int .i64 x',.int .i64 y',.int .i64 z'] 177))):=(As.alloc nl _).alloc Aa _;go_in;go_wp2_with fail;generalize(w.alloc (.cells #[.int .i64 x,.int .i64 y,.int .i64 z] 177)).alloc (.cells #[.int .i64 x',.int .i64 y',.int .i64 z'] 177)=w2 at *;go_quiet ((go_at_call 227;exact Calls.quiet_of_same (ajJ x y z x' y' z' _ _ _ A0.o A1.o)))
 go_wp2_with fail;go_ret;exact⟨rfl,below_drewN B0.o _⟩
theorem wQ(w:WD)(o:Obj):Hid (W3 ((w.alloc o).alloc (.cells #[.int .i64 0,.int .i64 0,.int .i64 0] 177)) (w.heap.size+1) 0 0 0):=by have:=W3.new (w.alloc o) 0 0 0;show W3 _ _ _ _ _;simpa using this
theorem Gf(w:WD)(o:Obj):Hid (Below w.heap.size w ((w.alloc o).alloc (.cells #[.int .i64 0,.int .i64 0,.int .i64 0] 177))):=(As.alloc nl _).alloc Aa _
theorem jR{b c:Nat}{w w':WD}(h:Below b w w')(e:b<=c)(x y z:Av):Below b w (((w'.setCell ⟨c,0,none⟩ x).setCell ⟨c,1,none⟩ y).setCell ⟨c,2,none⟩ z):=((h.setCell (p:=⟨c,0,none⟩) e _).setCell (p:=⟨c,1,none⟩) e _).setCell (p:=⟨c,2,none⟩) e _
theorem agU(nm:BY)(w:WD):
  Calls prog 326 #[.agg #[.string nm]] w fun ex w'=>ex=.returned (DC 0 0 1)/\Below w.heap.size w w':=by
 unfold DC;have A0:=wQ w (.cells #[.string nm] 309);have B0:=Gf w (.cells #[.string nm] 309);go_in;go_upto_region 1 with fail
 generalize(w.alloc (.cells #[.string nm] 309)).alloc (.cells #[.int .i64 0,.int .i64 0,.int .i64 0] 177)=w2 at *;obtain⟨r0,r1,r2⟩:=A0.o.cs;have f0:=A0.o.fz 0;have f1:=A0.o.fz 1;have f2:=A0.o.fz 2;go_wp2_with fail;refine bodyPost_ret (v:=.agg #[.int .i64 0,.int .i64 0,.int .i64 1]) (by simp[results,Tryz.results326,go_sem,r0,r1,r2]) rfl ?_;exact⟨rfl,jR B0.o oo _ _ _⟩
theorem ajK(nm:BY)(w:WD):
  Calls prog 335 #[.agg #[.string nm]] w fun ex w'=>ex=.returned (DC 1 0 0)/\Below w.heap.size w w':=by
 unfold DC;have A0:=wQ w (.cells #[.string nm] 332);have B0:=Gf w (.cells #[.string nm] 332);go_in;go_upto_region 1 with fail
 generalize(w.alloc (.cells #[.string nm] 332)).alloc (.cells #[.int .i64 0,.int .i64 0,.int .i64 0] 177)=w2 at *;obtain⟨r0,r1,r2⟩:=A0.o.cs;have f0:=A0.o.fz 0;have f1:=A0.o.fz 1;have f2:=A0.o.fz 2;go_wp2_with fail;refine bodyPost_ret (v:=.agg #[.int .i64 1,.int .i64 0,.int .i64 0]) (by simp[results,Tryz.results335,go_sem,r0,r1,r2]) rfl ?_;exact⟨rfl,jR B0.o oo _ _ _⟩
theorem aa5(nm:BY)(w:WD):
  Calls prog 339 #[.agg #[.string nm]] w fun ex w'=>ex=.returned (DC 0 1 0)/\Below w.heap.size w w':=by
 unfold DC;have A0:=wQ w (.cells #[.string nm] 333);have B0:=Gf w (.cells #[.string nm] 333);go_in;go_upto_region 1 with fail
 generalize(w.alloc (.cells #[.string nm] 333)).alloc (.cells #[.int .i64 0,.int .i64 0,.int .i64 0] 177)=w2 at *;obtain⟨r0,r1,r2⟩:=A0.o.cs;have f0:=A0.o.fz 0;have f1:=A0.o.fz 1;have f2:=A0.o.fz 2;go_wp2_with fail;refine bodyPost_ret (v:=.agg #[.int .i64 0,.int .i64 1,.int .i64 0]) (by simp[results,Tryz.results339,go_sem,r0,r1,r2]) rfl ?_;exact⟨rfl,jR B0.o oo _ _ _⟩
theorem adY(w:WD):
  Calls prog 332 #[.agg #[]] w fun ex w'=>ex=.returned (DC 0 0 0)/\Below w.heap.size w w':=by
 unfold DC;have A0:=wQ w (.cells #[] 311);have B0:=Gf w (.cells #[] 311);go_in;go_upto_region 1 with fail
 generalize(w.alloc (.cells #[] 311)).alloc (.cells #[.int .i64 0,.int .i64 0,.int .i64 0] 177)=w2 at *;obtain⟨r0,r1,r2⟩:=A0.o.cs;have f0:=A0.o.fz 0;have f1:=A0.o.fz 1;have f2:=A0.o.fz 2;go_wp2_with fail;refine bodyPost_ret (v:=.agg #[.int .i64 0,.int .i64 0,.int .i64 0]) (by simp[results,Tryz.results332,go_sem,r0,r1,r2]) rfl ?_;exact⟨rfl,jR B0.o oo _ _ _⟩
theorem agV (W : WD) : (method 503 311 (.agg #[]) "rinse/selectors.weight").run prog W = .ok (332, .agg #[]) W := by kernel_rfl
theorem ajL (nm : BY) (W : WD) : (method 503 309 (.agg #[.string nm]) "rinse/selectors.weight").run prog W = .ok (326, .agg #[.string nm]) W := by kernel_rfl
theorem alH (nm : BY) (W : WD) : (method 503 332 (.agg #[.string nm]) "rinse/selectors.weight").run prog W = .ok (335, .agg #[.string nm]) W := by kernel_rfl
theorem adZ (nm : BY) (W : WD) : (method 503 333 (.agg #[.string nm]) "rinse/selectors.weight").run prog W = .ok (339, .agg #[.string nm]) W := by kernel_rfl
def pwt(k:Nat)(nm:BY):Nat×Nat×Nat:=if k=116 then(if nm=aA then(0,0,0) else(0,0,1)) else if k=35 then(1,0,0) else(0,1,0)
def Pq(x:Nat×Nat×Nat):Av:=DC (x.1:Int) (x.2.1:Int) (x.2.2:Int)
theorem agW(k:Nat)(nm how v:BY)(lv:Av)(pl:Nat)(hk:k=116\/k=35\/k=46):
  ∃ T u K rcv, fE k nm how v lv pl = .iface T u ∧ (∀ W : WD, (method 503 T u "rinse/selectors.weight").run prog W = .ok (K, rcv) W) ∧ (∀ (args : Array Av) (W : WD), (callFunc K args).run prog W = .ok (.enter K args) W) ∧
   ∀w',Calls prog K #[rcv] w' fun e w''=>e=.returned (Pq (pwt k nm))/\Below w'.heap.size w' w'':=by
 unfold fE pwt;rcases hk with rfl|rfl|rfl
 .rw[if_pos rfl,if_pos rfl];by_cases e:nm=aA
  .rw[if_pos e,if_pos e];exact⟨_,_,_,_,rfl,agV,fun _ _=>rfl,fun w'=>adY w'⟩
  .rw[if_neg e,if_neg e];exact⟨_,_,_,_,rfl,ajL nm,fun _ _=>rfl,fun w'=>agU nm w'⟩
 .rw[if_neg (by decide),if_pos rfl,if_neg (by decide),if_pos rfl];exact⟨_,_,_,_,rfl,alH nm,fun _ _=>rfl,fun w'=>ajK nm w'⟩
 .rw[if_neg (by decide),if_neg (by decide),if_pos rfl,if_neg (by decide),if_neg (by decide)];exact⟨_,_,_,_,rfl,adZ nm,fun _ _=>rfl,fun w'=>aa5 nm w'⟩
def Xy(c:Int):Bool:=(decide (97<=c)&&decide (c<=122))||((decide (48<=c)&&decide (c<=57))||c==45)
theorem ad1{s:BY}{k:Nat}(h:k<s.size):Xy (pk s k)=oC s[k]:=by
 rw[YK h];unfold oC Xy;have e1:(s[k]==45)=((s[k].toNat:Int)==45):=by
  rw[Bool.eq_iff_iff];simp;constructor
  .rintro h;rw[h];rfl
  .intro h;exact UInt8.toNat_inj.1 (by have:s[k].toNat=45:=oo;rw[this];rfl)
 rw[e1];have e2:∀(n:Nat),decide (n<=s[k].toNat)=decide ((n:Int)<=(s[k].toNat:Int)):=fun n=>by simp
 have e3:∀(n:Nat),decide (s[k].toNat<=n)=decide ((s[k].toNat:Int)<=(n:Int)):=fun n=>by simp
 rw[e2,e2,e3,e3,Bool.or_assoc];rfl
theorem DF(c:Int)(w:WD):Calls prog 224 #[.int .u8 c] w fun e w'=>e=.returned (.bool (Xy c))/\w'=w:=by
 by_cases h1:97<=c
 .by_cases h2:c<=122
  .have HV:Hid (Xy c=true):=by show _=_;simp[Xy,h1,h2]
   go_in;go_wp2_with fail;go_ret;exact⟨aC HV.o.symm,rfl⟩
  .have h2':122<c:=oo;have h3:48<=c:=oo;have h4:57<c:=oo;have h5:(c==45)=false:=by simp;omega
   have HV:Hid (Xy c=false):=by show _=_;unfold Xy;rw[h5,decide_eq_false h2,decide_eq_false (show ¬c<=57 by omega)];simp
   clear h2;go_in;go_wp2_with fail;go_ret;exact⟨aC (by rw[HV.o,decide_eq_false (show ¬c<=122 by omega),decide_eq_false (show ¬c<=57 by omega)];rfl),rfl⟩
 .have h1':c<97:=oo;by_cases h3:48<=c
  .by_cases h4:c<=57
   .have HV:Hid (Xy c=true):=by show _=_;simp[Xy,h3,h4]
    clear h1;go_in;go_wp2_with fail;go_ret;exact⟨aC HV.o.symm,rfl⟩
   .have h4':57<c:=oo;have h5:(c==45)=false:=by simp;omega
    have HV:Hid (Xy c=false):=by show _=_;unfold Xy;rw[h5,decide_eq_false h1,decide_eq_false h4];simp
    clear h1 h4;go_in;go_wp2_with fail;go_ret;exact⟨aC (by rw[HV.o,decide_eq_false (show ¬c<=57 by omega)]),rfl⟩
  .have h3':c<48:=oo;have HV:Hid (Xy c=(c==45)):=by show _=_;unfold Xy;rw[decide_eq_false h1,decide_eq_false h3];simp
   clear h1 h3;go_in;go_wp2_with fail;go_ret;exact⟨aC HV.o.symm,rfl⟩
def uU(s:BY):Bool:=nameP s&&!decide (s=aA)
theorem DI(s:BY)(w:WD)(hs:s.size<=maxLen):Calls prog 153 #[.string s] w fun e w'=>e=.returned (.bool (uU s))/\w'=w:=by
 unfold maxLen at hs;cases h0:(s.toList==([]:List UInt8))
 .have n0:¬s=aA:=by rw[ay]at h0;simpa[aA]using h0
  have Lm:Hid (uU s=nameP s):=by show _=_;unfold uU;rw[decide_eq_false n0];simp
  clear n0;by_cases h12:12<s.size
  .have amW:(12:Int)<(s.size:Int):=oo;have HV:Hid (uU s=false):=by show _=_;rw[Lm.o];unfold nameP;rw[decide_eq_false (show ¬s.size<=12 by omega)];simp
   go_in;go_wp2_with fail;go_ret;exact⟨aC HV.o.symm,rfl⟩
  .have amW:(s.size:Int)<=12:=oo;have HV1:Hid (uU s=allB oC s):=by show _=_;rw[Lm.o];unfold nameP allB;rw[decide_eq_true (show s.size<=12 by omega)];simp
   go_in;go_wp2_with fail;go_loopg[13] s.size (fun g v wr=>∃k:Nat,k+g=s.size/\v=.int .i64 (k:Int)/\Aside (rJ oC s k=true/\wr=w));case atStart=>exact⟨0,oo,rfl,rfl,rfl⟩
   case round=>
    obtain⟨k,hk,rfl,hA⟩:=hrel;have HA:=hid hA.o.1;obtain rfl:=hA.o.2;clear hA;by_cases hlt:k<s.size
    .have h1:(k:Int)<(s.size:Int):=oo;have hix:=gQ s k hlt;have hpb:=ad1 hlt;obtain⟨z,Hz⟩:=Nm (oC s[k]);have HPB:Hid (Xy (pk s k)=z):=by rw[<-Hz.o];exact hpb
     clear hpb;go_wp2_with fail;refine(DF _ _).mono ?_;rw[HPB.o];rintro e w1 ⟨rfl,rfl⟩;cases z
     .have HV:Hid (uU s=false):=by show _=_;rw[HV1.o];exact x9 oC hlt Hz.o
      go_wp2_with fail;go_ret;exact⟨aC HV.o.symm,rfl⟩
     .have HN:Hid (rJ oC s (k+1)=true):=by show _=_;rw[vU oC hlt,HA.o,Hz.o];rfl
      go_wp2_with fail;go_roundg(s.size-(k+1));case measure=>omega
      case rel=>exact⟨k+1,oo,by congr 1,HN.o,rfl⟩
    .have h1:(s.size:Int)<=(k:Int):=oo;have HV:Hid (uU s=true):=by
      show _=_;rw[HV1.o,<-Eu];have:k=s.size:=oo;rw[<-this];exact HA.o
     go_wp2_with fail;go_ret;exact⟨aC HV.o.symm,rfl⟩
 .have n0:s=aA:=by rw[ay]at h0;simpa[aA]using h0
  have HV:Hid (uU s=false):=by show _=_;unfold uU;rw[decide_eq_true n0];simp
  clear n0;go_in;go_wp2_with fail;go_ret;exact⟨aC HV.o.symm,rfl⟩
def Xz(q:Int)(i:Nat):Bool:=if i=0 then q == -1 else decide (0<=q)&&decide (q<i)
theorem XB(q:Int)(i:Nat)(w:WD):Calls prog 89 #[.int .i64 q,.int .i64 (i:Int)] w fun e w'=>e=.returned (.bool (Xz q i))/\w'=w:=by
 by_cases h0:i=0
 .subst h0;have hz:(((0:Nat):Int)==0)=true:=rfl;have HV:Hid (Xz q 0=(q == -1)):=rfl;go_in;go_wp2_with fail;go_ret;exact⟨aC HV.o.symm,rfl⟩
 .have hz:((i:Int)==0)=false:=by simp;omega
  by_cases h1:0<=q
  .have HV:Hid (Xz q i=decide (q<(i:Int))):=by show _=_;unfold Xz;rw[if_neg h0,decide_eq_true h1];rfl
   clear h0;go_in;go_wp2_with fail;go_ret;exact⟨aC HV.o.symm,rfl⟩
  .have h1':q<0:=oo;have HV:Hid (Xz q i=false):=by show _=_;unfold Xz;rw[if_neg h0,decide_eq_false h1];rfl
   clear h0 h1;go_in;go_wp2_with fail;go_ret;exact⟨aC HV.o.symm,rfl⟩
theorem alI{s:BY}{k:Nat}(h:k<s.size):(s[k]==32)=(pk s k==32):=by
 rw[YK h,Bool.eq_iff_iff];simp;constructor
 .rintro h;rw[h];rfl
 .intro h;exact UInt8.toNat_inj.1 (by have:s[k].toNat=32:=oo;rw[this];rfl)
theorem L6(s:BY)(w:WD)(hs:s.size<=maxLen):Calls prog 154 #[.string s] w fun e w'=>e=.returned (.bool (dK s))/\w'=w:=by
 unfold maxLen at hs;by_cases h24:24<s.size
 .have amX:(24:Int)<(s.size:Int):=oo;have HV:Hid (dK s=false):=by show _=_;unfold dK;rw[decide_eq_false (show ¬s.size<=24 by omega)];simp
  go_in;go_wp2_with fail;go_ret;exact⟨aC HV.o.symm,rfl⟩
 .have amX:(s.size:Int)<=24:=oo;have HV1:Hid (dK s=allB (fun c=>oC c||c==32) s):=by show _=_;unfold dK allB;rw[decide_eq_true (show s.size<=24 by omega)];simp
  go_in;go_wp2_with fail;go_loopg[9] s.size (fun g v wr=>∃k:Nat,k+g=s.size/\v=.int .i64 (k:Int)/\Aside (rJ (fun c=>oC c||c==32) s k=true/\wr=w));case atStart=>exact⟨0,oo,rfl,rfl,rfl⟩
  case round=>
   obtain⟨k,hk,rfl,hA⟩:=hrel;have HA:=hid hA.o.1;obtain rfl:=hA.o.2;clear hA;by_cases hlt:k<s.size
   .have h1:(k:Int)<(s.size:Int):=oo;have hix:=gQ s k hlt;obtain⟨z,Hz⟩:=Nm (oC s[k]);have HPB:Hid (Xy (pk s k)=z):=by rw[<-Hz.o];exact ad1 hlt
    have HSP:Hid ((s[k]==32)=(pk s k==32)):=alI hlt;cases hsp:(pk s k != 32)
    .have HN:Hid (rJ (fun c=>oC c||c==32) s (k+1)=true):=by
      show _=_;have h32:(pk s k==32)=true:=by simpa using hsp
      rw[vU _ hlt,HA.o,HSP.o,h32];simp
     go_wp2_with fail;go_roundg(s.size-(k+1));case measure=>omega
     case rel=>exact⟨k+1,oo,by congr 1,HN.o,rfl⟩
    .have h32:(pk s k==32)=false:=by simpa using hsp
     have H32:=hid h32;clear h32;go_wp2_with fail;refine(DF _ _).mono ?_;rw[HPB.o];rintro e w1 ⟨rfl,rfl⟩;cases z
     .have HV:Hid (dK s=false):=by show _=_;rw[HV1.o];exact x9 _ hlt (by rw[Hz.o,HSP.o,H32.o];rfl)
      go_wp2_with fail;go_ret;exact⟨aC HV.o.symm,rfl⟩
     .have HN:Hid (rJ (fun c=>oC c||c==32) s (k+1)=true):=by show _=_;rw[vU _ hlt,HA.o,Hz.o];rfl
      go_wp2_with fail;go_roundg(s.size-(k+1));case measure=>omega
      case rel=>exact⟨k+1,oo,by congr 1,HN.o,rfl⟩
   .have h1:(s.size:Int)<=(k:Int):=oo;have HV:Hid (dK s=true):=by
     show _=_;rw[HV1.o,<-Eu];have:k=s.size:=oo;rw[<-this];exact HA.o
    go_wp2_with fail;go_ret;exact⟨aC HV.o.symm,rfl⟩
def XE(w:WD)(g:Nat)(x:Elem)(cv av:Av):Prop:=w.heap[g]?=some (.cells #[.int .i64 x.parent,.string x.tag,.string x.id,cv,av] 35 (0,0))
theorem XE.cs{w:WD}{g:Nat}{x:Elem}{cv av:Av}(h:XE w g x cv av):w.cell? ⟨g,0,none⟩=some (.int .i64 x.parent)/\w.cell? ⟨g,1,none⟩=some (.string x.tag)/\w.cell? ⟨g,2,none⟩=some (.string x.id)/\w.cell? ⟨g,3,none⟩=some cv/\w.cell? ⟨g,4,none⟩=some av:=by refine⟨?_,?_,?_,?_,?_⟩<;>(unfold World.cell?;rw[h];rfl)
theorem TK{α:Type}(f:α->Bool)(l:List α)(k:Nat)(h:k<l.length)(h1:(l.take k).all f=true)(h2:f l[k]=true):(l.take (k+1)).all f=true:=by rw[List.take_succ_eq_append_getElem h,List.all_append,h1];simp[h2]
theorem XC{α:Type}(f:α->Bool)(l:List α)(k:Nat)(h:k<l.length)(h2:f l[k]=false):l.all f=false:=by rw[List.all_eq_false];exact⟨l[k],List.getElem_mem _,by simp[h2]⟩
def TL(x:Elem):Bool:=uU x.tag&&nameP x.id&&decide (x.classes.length<=4)&&decide (x.attrs.length<=4)&&x.classes.all uU&&x.attrs.all (fun a=>uU a.1&&dK a.2)
theorem agX(a:BY×BY):aay a=(uU a.1&&dK a.2):=by unfold aay uU;cases nameP a.1<;>cases dK a.2<;>simp
theorem TM(i:Nat)(x:Elem):xC i x=(Wi i x&&TL x):=by have e:(fun a=>uU a.1&&dK a.2)=aay:=funext fun a=>(agX a).symm;rw[RJ];unfold acW TL uU;rw[show(fun a:BY×BY=>(nameP a.1&&!decide (a.1=aA))&&dK a.2)=aay from e];show _=(Wi i x&&(nameP x.tag&&!decide (x.tag=aA)&&nameP x.id&&decide (x.classes.length<=4)&&decide (x.attrs.length<=4)&&x.classes.all acV&&x.attrs.all aay));cases Wi i x<;>simp
theorem ad2(s:BY):nameP s=(decide (s=aA)||uU s):=by
 unfold uU;by_cases h:s=aA
 .subst h;rfl
 .simp[h]
theorem ad3(s:BY):(s.toList != ([]:List UInt8)) = !decide (s=aA):=by rw[bne,ay];rfl
theorem alJ(l:List UInt8)(h:¬l=[]):l.isEmpty=false:=by
 cases l with
 |nil=>exact absurd rfl h
 |cons a b=>rfl
theorem agY(s:BY)(h:s.toList=[]):nameP s=true:=by
 have e:=ad3 s;rw[h]at e;have e2:decide (s=aA)=true:=by
  cases hd:decide (s=aA)
  .rw[hd]at e;exact absurd e (by decide)
  .rfl
 rw[ad2,e2];rfl
theorem agZ(s:BY)(h:¬s.toList=[]):nameP s=uU s:=by have e2:decide (s=aA)=false:=decide_eq_false (by intro e;apply h;have h2:=ad3 s;rw[decide_eq_true e]at h2;simpa using h2);rw[ad2,e2];rfl
def XA(w:WD)(g:Nat)(s:BY×BY):Prop:=w.heap[g]?=some (.cells #[.string s.1,.string s.2] 96 (0,0))
theorem XA.cs{w:WD}{g:Nat}{s:BY×BY}(h:XA w g s):w.cell? ⟨g,0,none⟩=some (.string s.1)/\w.cell? ⟨g,1,none⟩=some (.string s.2):=by refine⟨?_,?_⟩<;>(unfold World.cell?;rw[h];rfl)
theorem ad4(B:Nat)(x:Elem)(cv av:Av)(w:WD)(hcl:SG eX 1 (fun b=>b<B) w cv x.classes)(hat:SG qH 2 (fun b=>b<B) w av x.attrs)(hts:x.tag.size<=4194304)(his:x.id.size<=4194304)(hB:B<=w.heap.size):
  Calls prog 90 #[.agg #[.int .i64 x.parent,.string x.tag,.string x.id,cv,av]] w fun e w'=>e=.returned (.bool (TL x))/\Below w.heap.size w w':=by
 obtain⟨ca,cc,rfl⟩:=hcl.form;obtain⟨aa,ac,rfl⟩:=hat.form;have alK:=hcl.len;have alL:=hat.len;have X1:Hid (XE (w.alloc (.cells #[.int .i64 x.parent,.string x.tag,.string x.id,.slice ca x.classes.length cc,.slice aa x.attrs.length ac] 35)) w.heap.size x (.slice ca x.classes.length cc) (.slice aa x.attrs.length ac)):=heap_alloc_new w _;have B1:Hid (Below w.heap.size w (w.alloc (.cells #[.int .i64 x.parent,.string x.tag,.string x.id,.slice ca x.classes.length cc,.slice aa x.attrs.length ac] 35))):=As.alloc nl _;have C1:=hid (hcl.below eX.fair B1.o hB)
 have A1:=hid (hat.below qH.fair B1.o hB);clear hcl hat;go_in;go_upto_region 1 with fail
 generalize w.alloc (.cells #[.int .i64 x.parent,.string x.tag,.string x.id,.slice ca x.classes.length cc,.slice aa x.attrs.length ac] 35)=w2 at *;obtain⟨gx,Hgx⟩:=Nm w.heap.size;have X2:Hid (XE w2 gx x (.slice ca x.classes.length cc) (.slice aa x.attrs.length ac)):=by rw[<-Hgx.o];exact X1
 rw[Hgx.o];clear X1;obtain⟨c0,c1,c2,c3,c4⟩:=X2.o.cs;have hs2:=B1.o.size;obtain⟨bt,Hbt⟩:=Nm (uU x.tag);obtain⟨bi,Hbi⟩:=Nm (uU x.id);go_cut [21] (fun s21 wx=>s21=.bool (!(uU x.tag&&nameP x.id))/\wx=w2);case first=>
  go_wp2_with fail;refine(DI x.tag _ Ao).mono ?_;rw[Hbt.o];rintro e wq ⟨rfl,hwq⟩;rw[hwq];clear hwq wq;cases bt
  .go_wp2_with fail;go_meet
   exact⟨by rw[Hbt.o];rfl,rfl⟩
  .go_wp2_with fail
   .have HV:Hid (nameP x.id=true):=agY x.id (by assumption);go_meet
    exact⟨by rw[Hbt.o,HV.o];rfl,rfl⟩
   .have HV:Hid (nameP x.id=bi):=by
     show _=_;rw[agZ x.id (by assumption)];exact Hbi.o
    have HE:Hid (x.id.toList.isEmpty=false):=alJ _ (by assumption);refine(DI x.id _ Ao).mono ?_;rw[Hbi.o];rintro e wq ⟨rfl,hwq⟩;rw[hwq];clear hwq wq;go_wp2_with fail;go_meet
    exact⟨by rw[Hbt.o,HV.o,HE.o];cases bi<;>rfl,rfl⟩
 case rest=>
 obtain⟨rfl,rfl⟩:=hcut;obtain⟨z,Hz⟩:=Nm ((uU x.tag&&nameP x.id));rw[Hz.o];clear Hbt Hbi;cases z
 .have HV:Hid (TL x=false):=by show _=_;unfold TL;rw[Hz.o];rfl
  go_wp2_with fail;go_ret;exact⟨aC HV.o.symm,B1.o⟩
 .by_cases h4:4<x.classes.length
  .have h4':(4:Int)<(x.classes.length:Int):=oo;have HV:Hid (TL x=false):=by show _=_;unfold TL;rw[decide_eq_false (show ¬x.classes.length<=4 by omega)];simp
   go_wp2_with fail;go_ret;exact⟨aC HV.o.symm,B1.o⟩
  .have h4':(x.classes.length:Int)<=4:=oo;by_cases h5:4<x.attrs.length
   .have h5':(4:Int)<(x.attrs.length:Int):=oo;have HV:Hid (TL x=false):=by show _=_;unfold TL;rw[decide_eq_false (show ¬x.attrs.length<=4 by omega)];simp
    go_wp2_with fail;go_ret;exact⟨aC HV.o.symm,B1.o⟩
   .have h5':(x.attrs.length:Int)<=4:=oo;have Lm:Hid (TL x=(x.classes.all uU&&x.attrs.all (fun a=>uU a.1&&dK a.2))):=by
     show _=_;unfold TL;rw[Hz.o,decide_eq_true (show x.classes.length<=4 by omega),decide_eq_true (show x.attrs.length<=4 by omega)];rfl
    have hxl:gx<wc.heap.size:=(Array.getElem?_eq_some_iff.1 (show wc.heap[gx]?=_ from X2.o)).1;go_wp2_with fail;go_loopg[35] x.classes.length (fun g v wr=>∃k:Nat,k+g=x.classes.length/\v=.int .i64 (k:Int)/\Aside ((x.classes.take k).all uU=true/\wr=wc));case atStart=>exact⟨0,oo,rfl,rfl,rfl⟩
    case round=>
     obtain⟨k,hk,rfl,hA⟩:=hrel;have HA:=hid hA.o.1;obtain rfl:=hA.o.2;clear hA;by_cases hlt:k<x.classes.length
     .have h1:(k:Int)<(x.classes.length:Int):=oo;obtain⟨g,o,rfl,hL,hcap⟩:=C1.o.here (by intro e;rw[e]at hlt;simp at hlt);obtain⟨hgs,d0,hsz⟩:=hL.str (i:=k) hlt;obtain⟨s,Hs⟩:=Nm (x.classes[k]);rw[Hs.o]at d0 hsz;clear hL;obtain⟨y,Hy⟩:=Nm (uU s);go_wp2_with fail;refine(DI s _ Ao).mono ?_;rw[Hy.o];rintro e wq ⟨rfl,hwq⟩;rw[hwq];clear hwq wq;cases y
      .have HV:Hid (TL x=false):=by show _=_;rw[Lm.o,XC uU x.classes k hlt (by rw[Hs.o];exact Hy.o)];rfl
       go_wp2_with fail;go_ret;exact⟨aC HV.o.symm,B1.o⟩
      .have HN:Hid ((x.classes.take (k+1)).all uU=true):=TK uU x.classes k hlt HA.o (by rw[Hs.o];exact Hy.o);go_wp2_with fail;go_roundg(x.classes.length-(k+1));case measure=>omega
       case rel=>exact⟨k+1,oo,by congr 1,HN.o,rfl⟩
     .have h1:(x.classes.length:Int)<=(k:Int):=oo;have HV1:Hid (TL x=x.attrs.all (fun a=>uU a.1&&dK a.2)):=by
       show _=_;have:(x.classes.take k).all uU=x.classes.all uU:=by rw[List.take_of_length_le oo]
       rw[Lm.o,<-this,HA.o];rfl
      go_wp2_with fail;clear c0 c1 c2 c3 c4 X2 HA Lm C1 h4 h4' h1 hlt;obtain⟨wc,hwc⟩:∃q,q=wr:=⟨_,rfl⟩;subst hwc;go_loopg[46] x.attrs.length (fun g v wr=>∃k:Nat,k+g=x.attrs.length/\v=.int .i64 (k:Int)/\Aside ((x.attrs.take k).all (fun a=>uU a.1&&dK a.2)=true/\Below w.heap.size wc wr));case atStart=>exact⟨0,oo,rfl,rfl,As⟩
      case round=>
       obtain⟨m,hm,rfl,hA⟩:=hrel;have HA:=hid hA.o.1;have BR:=hid hA.o.2;clear hA;have BW:=hid (B1.o.trans (BR.o));have A2:=hid (A1.o.below qH.fair BR.o hB);by_cases hlt:m<x.attrs.length
       .have h1:(m:Int)<(x.attrs.length:Int):=oo;obtain⟨g,o,rfl,hL,hcap⟩:=A2.o.here (by intro e;rw[e]at hlt;simp at hlt);obtain⟨hgs,d0,d1,hsz,hsz1⟩:=hL.att (i:=m) hlt;obtain⟨s,Hs⟩:=Nm (x.attrs[m]);rw[Hs.o]at d0 d1 hsz hsz1;clear hL;have N2:Hid (XA (wr.alloc (.cells #[.string s.1,.string s.2] 96)) wr.heap.size s):=heap_alloc_new wr _;have BN:Hid (Below w.heap.size wc (wr.alloc (.cells #[.string s.1,.string s.2] 96))):=BR.o.alloc BW.o.size _;have BV:Hid (Below w.heap.size w (wr.alloc (.cells #[.string s.1,.string s.2] 96))):=BW.o.alloc BW.o.size _;obtain⟨y1,Hy1⟩:=Nm (uU s.1);obtain⟨y2,Hy2⟩:=Nm (dK s.2);go_upto_region 14 with fail
        generalize wr.alloc (.cells #[.string s.1,.string s.2] 96)=w3 at *;obtain⟨gy,Hgy⟩:=Nm wr.heap.size;rw[Hgy.o]at N2;rw[Hgy.o];obtain⟨n0,n1⟩:=N2.o.cs;clear d0 d1;go_wp2_with fail;refine(DI s.1 _ Ao).mono ?_;rw[Hy1.o];rintro e wq ⟨rfl,hwq⟩;rw[hwq];clear hwq wq;cases y1
        .have HV:Hid (TL x=false):=by show _=_;rw[HV1.o];exact XC _ x.attrs m hlt (by rw[Hs.o,Hy1.o];rfl)
         go_wp2_with fail;go_ret;exact⟨aC HV.o.symm,BV.o⟩
        .go_wp2_with fail;refine(L6 s.2 _ Ao).mono ?_;rw[Hy2.o];rintro e wq ⟨rfl,hwq⟩;rw[hwq];clear hwq wq;cases y2
         .have HV:Hid (TL x=false):=by show _=_;rw[HV1.o];exact XC _ x.attrs m hlt (by rw[Hs.o,Hy1.o,Hy2.o];rfl)
          go_wp2_with fail;go_ret;exact⟨aC HV.o.symm,BV.o⟩
         .have HN:Hid ((x.attrs.take (m+1)).all (fun a=>uU a.1&&dK a.2)=true):=TK _ x.attrs m hlt HA.o (by rw[Hs.o,Hy1.o,Hy2.o];rfl);go_wp2_with fail;go_roundg(x.attrs.length-(m+1));case measure=>omega
          case rel=>exact⟨m+1,oo,by congr 1,HN.o,BN.o⟩
       .have h1:(x.attrs.length:Int)<=(m:Int):=oo;have HV:Hid (TL x=true):=by
         show _=_;have:(x.attrs.take m).all (fun a=>uU a.1&&dK a.2)=x.attrs.all (fun a=>uU a.1&&dK a.2):=by rw[List.take_of_length_le oo]
         rw[HV1.o,<-this,HA.o]
        go_wp2_with fail;go_ret;exact⟨aC HV.o.symm,BW.o⟩
theorem ad5(B:Nat)(p:aI)(v:Av)(w:WD)(h:SG wO 5 (fun b=>b<B) w v p)(hB:B<=w.heap.size):
  Calls prog 58 #[v] w fun e w'=>e=.returned (.bool (iL p))/\Below w.heap.size w w':=by
 have hl:=h.len;have HS:=hid h;obtain⟨a,cap,rfl⟩:=h.form;clear h;by_cases hl1:p.length<1
 .have h1:(p.length:Int)<1:=oo;have HV:Hid (iL p=false):=by show _=_;unfold iL;rw[decide_eq_false oo];rfl
  go_in;go_wp2_with fail;go_ret;exact⟨aC HV.o.symm,As⟩
 .have h1:(1:Int)<=(p.length:Int):=oo;by_cases amY:30<p.length
  .have h2:(30:Int)<(p.length:Int):=oo;have HV:Hid (iL p=false):=by show _=_;unfold iL;rw[decide_eq_false (p:=p.length<=30) oo];simp
   go_in;go_wp2_with fail;go_ret;exact⟨aC HV.o.symm,As⟩
  .have h2:(p.length:Int)<=30:=oo;have HP:Hid (iL p=gI 0 p):=by show _=_;unfold iL;rw[decide_eq_true oo,decide_eq_true oo];rfl
   clear hl1 amY;go_in;go_wp2_with fail;go_loopg[15] p.length (fun g v3 wr=>∃i:Nat,i+g=p.length/\v3=.int .i64 (i:Int)/\Aside (gI 0 p=gI i (p.drop i)/\Below w.heap.size w wr));case atStart=>exact⟨0,oo,rfl,rfl,As⟩
   case round=>
    obtain⟨go,hgo⟩:∃go,go=gk:=⟨_,rfl⟩;obtain⟨i,hi,rfl,hA⟩:=hrel;have HE:=hid hA.o.1;have HB:=hid hA.o.2;clear hA;by_cases hlt:i<p.length
    .have h3:(i:Int)<(p.length:Int):=oo;have hsz:=HB.o.size;have hS:=HS.o.below wO.fair HB.o hB;obtain⟨g,o,rfl,hL,hcap⟩:=hS.here (by rintro rfl;simp at hlt);obtain⟨cv,av,hX⟩:=hL.el (i:=i) hlt;obtain⟨x,hx⟩:∃x,x=p[i]:=⟨_,rfl⟩;have HE2:Hid (iL p=(xC i x&&gI (i+1) (p.drop (i+1)))):=by show _=_;rw[HP.o,HE.o,RN p i i hlt,hx]
     rw[<-hx]at hX;obtain⟨ca,cc,rfl⟩:=hX.cl.form;obtain⟨aa,ac,rfl⟩:=hX.at_.form;obtain⟨c0,c1,c2,c3,c4⟩:_/\_/\_/\_/\_:=⟨hX.c0,hX.c1,hX.c2,hX.c3,hX.c4⟩;have alK:=hX.cl.len;have alL:=hX.at_.len;have hts:=hX.tag;have his:=hX.id;have X2:Hid (XE (wr.alloc (.cells #[.int .i64 x.parent,.string x.tag,.string x.id,.slice ca x.classes.length cc,.slice aa x.attrs.length ac] 35)) wr.heap.size x (.slice ca x.classes.length cc) (.slice aa x.attrs.length ac)):=heap_alloc_new wr _;have B2:Hid (Below w.heap.size w (wr.alloc (.cells #[.int .i64 x.parent,.string x.tag,.string x.id,.slice ca x.classes.length cc,.slice aa x.attrs.length ac] 35))):=HB.o.alloc hsz _
     have C2:Hid (SG eX 1 (fun b=>b<B) (wr.alloc (.cells #[.int .i64 x.parent,.string x.tag,.string x.id,.slice ca x.classes.length cc,.slice aa x.attrs.length ac] 35)) (.slice ca x.classes.length cc) x.classes):=hX.cl.keep eX.fair (fun _ hg=>hg) fun q hq=>Below.heap_alloc _ _ _ oo;have A2:Hid (SG qH 2 (fun b=>b<B) (wr.alloc (.cells #[.int .i64 x.parent,.string x.tag,.string x.id,.slice ca x.classes.length cc,.slice aa x.attrs.length ac] 35)) (.slice aa x.attrs.length ac) x.attrs):=hX.at_.keep qH.fair (fun _ hg=>hg) fun q hq=>Below.heap_alloc _ _ _ oo;clear hS hL hX hx;go_upto_region 6 with fail
     generalize wr.alloc (.cells #[.int .i64 x.parent,.string x.tag,.string x.id,.slice ca x.classes.length cc,.slice aa x.attrs.length ac] 35)=w2 at *;generalize wr.heap.size=xb at *;clear c0 c1 c2 c3 c4 HE;obtain⟨c0,c1,c2,c3,c4⟩:=X2.o.cs;have hsz2:=B2.o.size;obtain⟨bp,Hbp⟩:=Nm (Xz x.parent i);obtain⟨be,Hbe⟩:=Nm (TL x);have Pv:Hid (iL p=(bp&&be&&gI (i+1) (p.drop (i+1)))):=by show _=_;rw[HE2.o,TM,show Wi i x=bp from Hbp.o,Hbe.o]
     go_wp2_with fail;refine(XB x.parent i _).mono ?_;rw[Hbp.o];rintro e wq ⟨rfl,hwq⟩;rw[hwq];clear hwq wq;cases bp
     .have HV:Hid (iL p=false):=Pv.o;go_wp2_with fail;go_ret;exact⟨aC HV.o.symm,B2.o⟩
     .go_wp2_with fail;refine(ad4 B x _ _ _ C2.o A2.o hts his oo).mono ?_;rw[Hbe.o];rintro e wq ⟨rfl,hwq⟩;have B3:=hid (B2.o.trans (hwq.mono hsz2));clear hwq c0 c1 c2 c3 c4 X2;cases be
      .have HV:Hid (iL p=false):=Pv.o;go_wp2_with fail;go_ret;exact⟨aC HV.o.symm,B3.o⟩
      .have HT:Hid (gI 0 p=gI (i+1) (p.drop (i+1))):=by
        show _=_;rw[<-HP.o,Pv.o];rfl
       go_wp2_with fail;go_roundg(go-1);case measure=>omega
       case rel=>exact⟨i+1,oo,by congr 1,HT.o,B3.o⟩
    .have h3:(p.length:Int)<=(i:Int):=oo;have HV:Hid (iL p=true):=by
      show _=_;rw[HP.o,HE.o,List.drop_of_length_le oo];rfl
     go_wp2_with fail;go_ret;exact⟨aC HV.o.symm,HB.o⟩
theorem ag0(s k:Nat)(hs:s<18446744073709551616):(bits .and .u64 ((s:Int)/2 ^ k) 1==1)=s.testBit k:=by
 have h1:(s:Int)/2 ^ k=((s/2 ^ k:Nat):Int):=by simp
 have h2:s/2 ^ k<18446744073709551616:=Nat.lt_of_le_of_lt (Nat.div_le_self _ _) hs;have h3:=bits_and_u64_nat (s/2 ^ k) 1 h2 Ab;rw[h1];rw[show((1:Nat):Int)=1 from rfl]at h3;rw[h3,Nat.and_one_is_mod,Nat.testBit_eq_decide_div_mod_eq];by_cases h:s/2 ^ k%2=1
 .rw[h];rfl
 .have h4:s/2 ^ k%2=0:=oo;rw[h4];rfl
def hasB(s:Nat)(e:Int):Bool:=decide (0<=e)&&s.testBit e.toNat
theorem ajM(n:Nat)(a:Option Addr)(cap:Nat)(e:Int)(w:WD):
  Calls prog 33 #[.agg #[.slice a n cap],.int .i64 e] w fun ex w'=>ex=.returned (.bool (decide (0<=e)&&decide (e<n)))/\Below w.heap.size w w':=by
 have B1:Hid (Below w.heap.size w (w.alloc (.cells #[.slice a n cap] 66))):=As.alloc nl _;go_in;by_cases h0:0<=e
 .have HV:Hid ((decide (0<=e)&&decide (e<(n:Int)))=decide (e<(n:Int))):=by show _=_;rw[decide_eq_true h0];rfl
  go_wp2_with fail;go_ret;exact⟨aC HV.o.symm,B1.o⟩
 .have h1:e<0:=oo;have HV:Hid ((decide (0<=e)&&decide (e<(n:Int)))=false):=by show _=_;rw[decide_eq_false h0];rfl
  clear h0;go_wp2_with fail;go_ret;exact⟨aC HV.o.symm,B1.o⟩
theorem EN(s:Nat)(e:Int)(w:WD)(hs:s<18446744073709551616)(he:e<64):
  Calls prog 47 #[.int .u64 (s:Int),.int .i64 e] w fun ex w'=>ex=.returned (.bool (hasB s e))/\w'=w:=by
 go_in;by_cases h0:0<=e
 .have HV:Hid (hasB s e=(bits .and .u64 ((s:Int)/2 ^ e.toNat) 1==1)):=by show _=_;rw[ag0 s _ hs];unfold hasB;rw[decide_eq_true h0];rfl
  go_wp2_with fail;go_ret;exact⟨aC HV.o.symm,rfl⟩
 .have h1:e<0:=oo;have HV:Hid (hasB s e=false):=by show _=_;unfold hasB;rw[decide_eq_false h0];rfl
  clear h0;go_wp2_with fail;go_ret;exact⟨aC HV.o.symm,rfl⟩
theorem amZ(B:Nat)(p:aI)(v:Av)(w:WD)(h:SG wO 5 (fun b=>b<B) w v p)(hB:B<=w.heap.size):
  Calls prog 32 #[v] w fun e w'=>(∃pv,e=.returned (.tuple #[pv,.bool (iL p)])/\(iL p=true->pv=.agg #[v]))/\Below w.heap.size w w':=by
 have B1:Hid (Below w.heap.size w (w.alloc (.cells #[.slice none 0 0] 66))):=As.alloc nl _;have HS:=hid (h.below wO.fair B1.o hB);have hsz:=B1.o.size;have N0:Hid ((w.alloc (.cells #[.slice none 0 0] 66)).heap[w.heap.size]?=some (.cells #[.slice none 0 0] 66 (0,0))):=heap_alloc_new w _;obtain⟨a,cap,rfl⟩:=h.form;clear h;obtain⟨b,Hb⟩:=Nm (iL p);go_in;go_wp2_with fail;generalize w.alloc (.cells #[.slice none 0 0] 66)=w2 at *;refine(ad5 B p _ _ HS.o oo).mono ?_;rw[Hb.o];rintro e wq ⟨rfl,hwq⟩;have B2:=hid (B1.o.trans (hwq.mono hsz));have N1:Hid (wq.heap[w.heap.size]?=some (.cells #[.slice none 0 0] 66 (0,0))):=by show _=_;rw[hwq.block _ (Ax N0.o)];exact N0.o
 have c0:wq.cell? ⟨w.heap.size,0,none⟩=some (.slice none 0 0):=by unfold World.cell?;rw[N1.o];rfl
 have f0:wq.frozen? ⟨w.heap.size,0,none⟩=false:=by unfold World.frozen?;rw[N1.o];simp
 clear hwq N0 N1 HS;cases b
 .have c1:(wq.setCell ⟨w.heap.size,0,none⟩ (.slice none 0 0)).cell? ⟨w.heap.size,0,none⟩=some (.slice none 0 0):=World.cell?_setCell_same _ _ _ c0;have B3:Hid (Below w.heap.size w (wq.setCell ⟨w.heap.size,0,none⟩ (.slice none 0 0))):=B2.o.setCell nl _;go_wp2_with fail;generalize wq.setCell ⟨w.heap.size,0,none⟩ (.slice none 0 0)=w9 at *;refine bodyPost_ret (v:=.tuple #[.agg #[.slice none 0 0],.bool false]) (by simp[results,Tryz.results32,go_sem,c1]) rfl ?_;exact⟨⟨_,by rw[Hb.o],by rw[Hb.o];intro h;cases h⟩,B3.o⟩
 .have c1:(wq.setCell ⟨w.heap.size,0,none⟩ (.slice a p.length cap)).cell? ⟨w.heap.size,0,none⟩=some (.slice a p.length cap):=World.cell?_setCell_same _ _ _ c0;have B3:Hid (Below w.heap.size w (wq.setCell ⟨w.heap.size,0,none⟩ (.slice a p.length cap))):=B2.o.setCell nl _;go_wp2_with fail;generalize wq.setCell ⟨w.heap.size,0,none⟩ (.slice a p.length cap)=w9 at *;refine bodyPost_ret (v:=.tuple #[.agg #[.slice a p.length cap],.bool true]) (by simp[results,Tryz.results32,go_sem,c1]) rfl ?_;exact⟨⟨_,by rw[Hb.o],fun _=>rfl⟩,B3.o⟩
def Gg(a s:Nat):Nat:=(BitVec.ofNat 64 a &&& ~~~BitVec.ofNat 64 s).toNat
theorem GI(a s:Nat):Gg a s<18446744073709551616:=(BitVec.ofNat 64 a &&& ~~~BitVec.ofNat 64 s).isLt
theorem TN(a s:Nat):bits .andNot .u64 (a:Int) (s:Int)=(Gg a s:Int):=by have h:=GI a s;show IntKind.u64.wrap ((BitVec.ofInt 64 (a:Int) &&& ~~~BitVec.ofInt 64 (s:Int)).toNat:Int)=_;rw[BitVec.ofInt_natCast,BitVec.ofInt_natCast,IntKind.wrap_u64];show((Gg a s:Nat):Int)%_=_;omega
theorem wB(n:Nat)(hn:n<=30):2 ^ n<=1073741824:=show 2 ^ n<=2 ^ 30 from Nat.pow_le_pow_right Ab hn
theorem ad6(n:Nat)(hn:n<=30):IntKind.u64.wrap (IntKind.u64.wrap (2 ^ n)-1)=((2 ^ n-1:Nat):Int):=by
 have h:=wB n hn;have h1:1<=2 ^ n:=Nat.one_le_two_pow;have e:(2:Int) ^ n=((2 ^ n:Nat):Int):=by simp
 rw[e];generalize(2 ^ n:Nat)=m at *;rw[IntKind.wrap_u64,IntKind.wrap_u64];omega
theorem ajN(v:Av)(w:WD):Calls prog 359 #[.agg #[v]] w fun ex w'=>ex=.returned (.int .u64 1)/\Below w.heap.size w w':=by have B1:Hid (Below w.heap.size w (w.alloc (.cells #[v] 66))):=As.alloc nl _;go_in;go_wp2_with fail;go_ret;exact⟨rfl,B1.o⟩
theorem TP(n:Nat)(a:Option Addr)(cap:Nat)(w:WD)(hn:n<=30):
  Calls prog 203 #[.agg #[.slice a n cap]] w fun ex w'=>ex=.returned (.int .u64 ((2 ^ n-1:Nat):Int))/\Below w.heap.size w w':=by
 have B1:Hid (Below w.heap.size w (w.alloc (.cells #[.slice a n cap] 66))):=As.alloc nl _;have hi:(n:Int)<=30:=oo;have HV:Hid (IntKind.u64.wrap (IntKind.u64.wrap (2 ^ n)-1)=((2 ^ n-1:Nat):Int)):=ad6 n hn;go_in;go_wp2_with fail;go_ret;exact⟨by rw[HV.o];rfl,B1.o⟩
theorem aa6(n:Nat)(a:Option Addr)(cap:Nat)(s:Nat)(w:WD)(hn:n<=30):
  Calls prog 368 #[.agg #[.slice a n cap],.int .u64 (s:Int)] w fun ex w'=>ex=.returned (.int .u64 (Gg (2 ^ n-1) s:Int))/\Below w.heap.size w w':=by
 have B1:Hid (Below w.heap.size w (w.alloc (.cells #[.slice a n cap] 66))):=As.alloc nl _;have HV:Hid (bits .andNot .u64 ((2 ^ n-1:Nat):Int) (s:Int)=(Gg (2 ^ n-1) s:Int)):=TN _ _;have hsz:=B1.o.size;go_in;go_wp2_with fail;refine pmb (TP n a cap _ hn) fun wq hwq=>?_;have B2:=hid (B1.o.trans (hwq.mono hsz));go_wp2_with fail;go_ret;exact⟨by rw[HV.o];rfl,B2.o⟩
def jq(t:Nat->Bool):Nat->Nat
 |0=>0
 |k+1=>if t k then jq t k ||| 2 ^ k else jq t k
theorem yC(t:Nat->Bool)(k e:Nat):(jq t k).testBit e=(decide (e<k)&&t e):=by
 induction k with
 |zero=>simp[jq]
 |succ k ih=>
  unfold jq;by_cases he:e=k
  .subst he;cases h:t e
   .simp[ih,h]
   .simp[ih,h,Nat.testBit_or]
  .have h2:decide (e<k+1)=decide (e<k):=by by_cases h:e<k<;>simp[h]<;>omega
   rw[h2];cases h:t k
   .simp[ih]
   .have:¬k=e:=fun h=>he h.symm;simp[ih,Nat.testBit_or,this]
theorem ag1(t:Nat->Bool)(k:Nat):jq t k<2 ^ k:=by
 apply Nat.lt_pow_two_of_testBit
 intro i hi;rw[yC];simp;omega
theorem uJ(t:Nat->Bool)(k:Nat)(hk:k<=30):jq t k<18446744073709551616:=by have:=ag1 t k;have:=wB k hk;omega
theorem Px(k:Nat)(hk:k<=30):IntKind.u64.wrap (2 ^ k)=((2 ^ k:Nat):Int):=by
 have h:=wB k hk;have e:(2:Int) ^ k=((2 ^ k:Nat):Int):=by simp
 rw[e];generalize(2 ^ k:Nat)=m at *;rw[IntKind.wrap_u64];omega
theorem ag2(t:Nat->Bool)(k:Nat)(hk:k<30)(h:t k=true):bits .or .u64 (jq t k:Int) (IntKind.u64.wrap (2 ^ k))=(jq t (k+1):Int):=by
 have h1:=uJ t k oo;have h2:=wB k oo;rw[Px k oo,bits_or_u64_nat _ _ h1 oo];conv=>rhs;unfold jq
 rw[if_pos h]
theorem rZ(n:Nat)(a:Option Addr)(cap:Nat)(g:Nat)(cs:Array Av)(t:Nat->Bool)(w:WD)(hn:n<=30)
  (hg:∀(args:Array Av) (w:WD),(callFunc g args).run prog w=.ok (.enter g args) w)
  (hf:∀i,i<n->∀w',Below w.heap.size w w'->Calls prog g (#[.int .i64 (i:Int)]++cs) w' fun ex w''=>ex=.returned (.bool (t i))/\Below w'.heap.size w' w''):
  Calls prog 259 #[.agg #[.slice a n cap],.func (.func g) #[] cs] w fun ex w'=>ex=.returned (.int .u64 (jq t n:Int))/\Below w.heap.size w w':=by
 have B1:Hid (Below w.heap.size w (w.alloc (.cells #[.slice a n cap] 66))):=As.alloc nl _;have hi:(n:Int)<=30:=oo;have HF:=hid hf;clear hf;go_in;go_wp2_with fail;generalize w.alloc (.cells #[.slice a n cap] 66)=w2 at *;go_loopg[5,10] n (fun g v5 v wr=>∃k:Nat,k+g=n/\v=.int .i64 (k:Int)/\v5=.int .u64 (jq t k:Int)/\Aside (Below w.heap.size w wr));case atStart=>exact⟨0,oo,rfl,rfl,B1.o⟩
 case round=>
  obtain⟨k,hk,rfl,rfl,hA⟩:=hrel;have HB:Hid (Below w.heap.size w wr):=hA.o;clear hA;have hsz:=HB.o.size;by_cases hlt:k<n
  .have h1:(k:Int)<(n:Int):=oo;have hc:=HF.o k hlt wr HB.o;go_wp2_with fail;refine hc.mono ?_;rintro e wq ⟨rfl,hwq⟩;have BQ:=hid (HB.o.trans (hwq.mono hsz));clear hwq hc;cases ht:t k
   .have HV:Hid (jq t k=jq t (k+1)):=by show _=_;rw[show jq t (k+1)=(if t k then jq t k ||| 2 ^ k else jq t k) from rfl,ht];rfl
    go_wp2_with fail;go_roundg(n-(k+1));case measure=>omega
    case rel=>exact⟨k+1,oo,by congr 1,by rw[HV.o],BQ.o⟩
   .have h30:(k:Int)<30:=oo;have HV:Hid (bits .or .u64 (jq t k:Int) (IntKind.u64.wrap (2 ^ k))=(jq t (k+1):Int)):=ag2 t k oo ht;go_wp2_with fail;go_roundg(n-(k+1));case measure=>omega
    case rel=>exact⟨k+1,oo,by congr 1,by rw[HV.o],BQ.o⟩
  .have h1:(n:Int)<=(k:Int):=oo;have HV:Hid (jq t k=jq t n):=by show _=_;rw[show k=n by omega]
   go_wp2_with fail;go_ret;exact⟨by rw[HV.o];rfl,HB.o⟩
theorem ad7(s:Nat){q:Int}(h:0<=q):hasB s q=s.testBit q.toNat:=by unfold hasB;rw[decide_eq_true h];rfl
theorem JO(s k:Nat):hasB s (k:Int)=s.testBit k:=by rw[ad7 s oo];rfl
def mD(p:aI)(s:Nat):Nat->Nat
 |0=>0
 |k+1=>if (hasB s (parentOf p k)||hasB (mD p s k) (parentOf p k))=true then mD p s k ||| 2 ^ k else mD p s k
theorem ag3(p:aI)(s:Nat)(k:Nat):mD p s k<2 ^ k:=by
 induction k with
 |zero=>simp[mD]
 |succ k ih=>
  have h2:2 ^ k<2 ^ (k+1):=Nat.pow_lt_pow_right Ab oo;unfold mD;split
  .exact Nat.or_lt_two_pow oo h2
  .omega
structure jZ(B:Nat)(w:WD)(p:aI)(a:Option Addr)(cap:Nat):Prop where
 sg:SG wO 5 (fun b=>b<B) w (.slice a p.length cap) p
 lt:B<=w.heap.size
 pg:iL p=true
theorem jZ.below{B:Nat}{w w':WD}{p:aI}{a:Option Addr}{cap:Nat}{g:Nat}(h:jZ B w p a cap)(hb:Below g w w')(hg:B<=g):jZ B w' p a cap:=⟨h.sg.below wO.fair hb hg,Nat.le_trans h.lt hb.size,h.pg⟩
theorem jZ.alloc{B:Nat}{w:WD}{p:aI}{a:Option Addr}{cap:Nat}(h:jZ B w p a cap)(o:Obj):jZ B (w.alloc o) p a cap:=h.below (As.alloc nl o) h.lt
theorem jZ.len{B:Nat}{w:WD}{p:aI}{a:Option Addr}{cap:Nat}(h:jZ B w p a cap):1<=p.length/\p.length<=30:=by have:=h.pg;unfold iL at this;simp only[Bool.and_eq_true,decide_eq_true_eq]at this;omega
theorem jZ.par{B:Nat}{w:WD}{p:aI}{a:Option Addr}{cap:Nat}(h:jZ B w p a cap):Par p:=Ij h.pg
theorem jZ.at{B:Nat}{w:WD}{p:aI}{a:Option Addr}{cap:Nat}(h:jZ B w p a cap):∃g o,a=some ⟨g,o,none⟩/\g<B/\p.length<=cap/\∀i,i<p.length->w.cell? ⟨g,o+i*5,none⟩=some (.int .i64 (parentOf p i)):=by obtain⟨g,o,rfl,hL,hc⟩:=h.sg.here (by have:=h.len;rintro rfl;simp at this);obtain⟨_,_,hX⟩:=hL.el (i:=0) (by have:=h.len;omega);refine⟨g,o,rfl,hX.s,hc,fun i hi=>?_⟩;obtain⟨cv,av,hX⟩:=hL.el (i:=i) hi;rw[ng hi];exact hX.c0
theorem jZ.lo{B:Nat}{w:WD}{p:aI}{a:Option Addr}{cap:Nat}(h:jZ B w p a cap){i:Nat}(hi:i<p.length): -1<=parentOf p i/\parentOf p i<i:=by
 have h1:=h.par.lt i hi;refine⟨?_,h1⟩;have h2:=h.pg;unfold iL at h2;simp only[Bool.and_eq_true]at h2;have h3:∀(p:aI) (i k:Nat),gI i p=true->∀h:k<p.length,-1<=p[k].parent:=by
  intro p;induction p with
  |nil=>intro i k _ h;simp at h
  |cons x r ih=>
   intro i k he hk;unfold gI at he;simp only[Bool.and_eq_true]at he;cases k with
   |zero=>
    have h5:=he.1;rw[TM]at h5;simp only[Bool.and_eq_true]at h5;have h6:=h5.1;unfold Wi at h6;split at h6
    .simp at h6;simp;omega
    .simp at h6;simp;omega
   |succ k=>simpa using ih (i+1) k he.2 (by simpa using hk)
 rw[ng hi];exact h3 p 0 i h2.2 hi
theorem iR(w:WD)(v1:Av)(T1:TypeId)(v2:Av)(T2:TypeId):bU ((w.alloc (.cells #[v1] T1)).alloc (.cells #[v2] T2)) w.heap.size v1 T1/\bU ((w.alloc (.cells #[v1] T1)).alloc (.cells #[v2] T2)) (w.heap.size+1) v2 T2/\Below w.heap.size w ((w.alloc (.cells #[v1] T1)).alloc (.cells #[v2] T2)):=by refine⟨(bU.new w v1 T1).alloc _,?_,(As.alloc nl _).alloc Aa _⟩;have:=bU.new (w.alloc (.cells #[v1] T1)) v2 T2;simpa using this
theorem EO(p:aI)(s k:Nat)(hk:k<=30):mD p s k<18446744073709551616:=by have:=ag3 p s k;have:=wB k hk;omega
theorem Zc(p:aI)(s k:Nat)(hk:k<30)(h:(hasB s (parentOf p k)||hasB (mD p s k) (parentOf p k))=true):bits .or .u64 (mD p s k:Int) (IntKind.u64.wrap (2 ^ k))=(mD p s (k+1):Int):=by
 have h1:=EO p s k oo;have h2:=wB k oo;rw[Px k oo,bits_or_u64_nat _ _ h1 oo];conv=>rhs;unfold mD
 rw[if_pos h]
theorem ag4(p:aI)(s k:Nat)(h:(hasB s (parentOf p k)||hasB (mD p s k) (parentOf p k))=false):mD p s (k+1)=mD p s k:=by
 conv=>lhs;unfold mD
 rw[if_neg (by rw[h];simp)]
theorem ag5(B:Nat)(p:aI)(a:Option Addr)(cap s:Nat)(w:WD)(h:jZ B w p a cap)(hs:s<18446744073709551616):
  Calls prog 199 #[.agg #[.slice a p.length cap],.int .u64 (s:Int)] w fun ex w'=>ex=.returned (.int .u64 (mD p s p.length:Int))/\Below w.heap.size w w':=by
 have B0:Hid (Below w.heap.size w (w.alloc (.cells #[.slice a p.length cap] 66))):=As.alloc nl _;have V0:Hid (bU (w.alloc (.cells #[.slice a p.length cap] 66)) w.heap.size (.slice a p.length cap) 66):=bU.new _ _ _;have hlen:=h.len;have wX:Hid (jZ B (w.alloc (.cells #[.slice a p.length cap] 66)) p a cap):=h.alloc _;clear h;go_in;go_wp2_with fail;generalize w.alloc (.cells #[.slice a p.length cap] 66)=w0 at *;obtain⟨pb,Hpb⟩:=Nm w.heap.size;rw[Hpb.o]at B0 V0;rw[Hpb.o];have c0:=V0.o.c;go_loopg[5,11] p.length (fun g v6 v wr=>∃k:Nat,k+g=p.length/\v=.int .i64 (k:Int)/\v6=.int .u64 (mD p s k:Int)/\wr=w0);case atStart=>exact⟨0,oo,rfl,rfl,rfl⟩
 case round=>
  obtain⟨go,hgo⟩:∃go,go=gk:=⟨_,rfl⟩;obtain⟨k,hk,rfl,rfl,rfl⟩:=hrel;by_cases hlt:k<p.length
  .have h1:(k:Int)<(p.length:Int):=oo;obtain⟨g,o,rfl,hgB,hcap,hcs⟩:=wX.o.at;have c1:=hcs k hlt;have hq:=wX.o.lo hlt;obtain⟨q,Hq⟩:=Nm (parentOf p k);rw[Hq.o]at c1 hq;clear hcs;have h30:(k:Int)<30:=oo;have hbl:=EO p s k oo;go_wp2_with fail;refine(EN s q _ hs oo).mono ?_;obtain⟨b1,Hb1⟩:=Nm (hasB s q);rw[Hb1.o];rintro e wq ⟨rfl,hwq⟩;rw[hwq];clear hwq;cases b1
   .go_wp2_with fail;refine(EN (mD p s k) q _ hbl oo).mono ?_;obtain⟨b2,Hb2⟩:=Nm (hasB (mD p s k) q);rw[Hb2.o];rintro e wq ⟨rfl,hwq⟩;rw[hwq];clear hwq;cases b2
    .have HV:Hid (mD p s (k+1)=mD p s k):=ag4 p s k (by rw[Hq.o,Hb1.o,Hb2.o];rfl);go_wp2_with fail;go_roundg(go-1);case measure=>omega
     case rel=>exact⟨k+1,oo,by congr 1,by rw[HV.o],rfl⟩
    .have HV:Hid (bits .or .u64 (mD p s k:Int) (IntKind.u64.wrap (2 ^ k))=(mD p s (k+1):Int)):=Zc p s k oo (by rw[Hq.o,Hb1.o,Hb2.o];rfl);go_wp2_with fail;go_roundg(go-1);case measure=>omega
     case rel=>exact⟨k+1,oo,by congr 1,by rw[HV.o],rfl⟩
   .have HV:Hid (bits .or .u64 (mD p s k:Int) (IntKind.u64.wrap (2 ^ k))=(mD p s (k+1):Int)):=Zc p s k oo (by rw[Hq.o,Hb1.o];rfl);go_wp2_with fail;go_roundg(go-1);case measure=>omega
    case rel=>exact⟨k+1,oo,by congr 1,by rw[HV.o],rfl⟩
  .have h1:(p.length:Int)<=(k:Int):=oo;have HV:Hid (mD p s k=mD p s p.length):=by show _=_;rw[show k=p.length by omega]
   go_wp2_with fail;go_ret;exact⟨by rw[HV.o];rfl,by rw[Hpb.o];exact B0.o⟩
def Gh(x:Elem)(cv av:Av):Av:=.agg #[.int .i64 x.parent,.string x.tag,.string x.id,cv,av]
def TQ(p:aI)(t:Elem->Bool)(i:Nat):Bool:=match p[i]? with|none=>false|some x=>t x
theorem ad8{p:aI}{t:Elem->Bool}{i:Nat}(h:i<p.length):TQ p t i=t p[i]:=by unfold TQ;rw[List.getElem?_eq_getElem h]
theorem ad9(B:Nat)(p:aI)(a:Option Addr)(cap fb pb i:Nat)(g:Nat)(cs:Array Av)(t:Elem->Bool)(w:WD)(h:jZ B w p a cap)(hi:i<p.length)
  (hfb:bU w fb (.func (.func g) #[] cs) 170) (hpb:bU w pb (.slice a p.length cap) 66)
  (hg:∀(args:Array Av) (w:WD),(callFunc g args).run prog w=.ok (.enter g args) w)
  (hf:∀cv av w',Below w.heap.size w w'->SG eX 1 (fun b=>b<B) w' cv p[i].classes->SG qH 2 (fun b=>b<B) w' av p[i].attrs->Calls prog g (#[Gh p[i] cv av]++cs) w' fun ex w''=>ex=.returned (.bool (t p[i]))/\Below w'.heap.size w' w''):
  Calls prog 330 #[.int .i64 (i:Int),.pointer (some ⟨fb,0,none⟩),.pointer (some ⟨pb,0,none⟩)] w fun ex w'=>ex=.returned (.bool (TQ p t i))/\Below w.heap.size w w':=by
 rw[ad8 hi];have hlen:=h.len;obtain⟨g',o,rfl,hL,hcap⟩:=h.sg.here (by rintro rfl;simp at hi);obtain⟨cv,av,hX⟩:=hL.el (i:=i) hi;generalize p[i]=x at *;obtain⟨ca,cc,rfl⟩:=hX.cl.form;obtain⟨aa,ac,rfl⟩:=hX.at_.form;have hdr:Below w.heap.size w w.drew:=As.drew;have hc:=hf _ _ w.drew hdr (hX.cl.below eX.fair hdr h.lt) (hX.at_.below qH.fair hdr h.lt);have HC:Hid (Calls prog g (#[Gh x (.slice ca x.classes.length cc) (.slice aa x.attrs.length ac)]++cs) w.drew fun ex w'=>ex=.returned (.bool (t x))/\Below w.heap.size w.drew w'):=hc;obtain⟨c0,c1,c2,c3,c4⟩:_/\_/\_/\_/\_:=⟨hX.c0,hX.c1,hX.c2,hX.c3,hX.c4⟩;have d1:=hfb.c;have d2:=hpb.c;have h1:(i:Int)<(p.length:Int):=oo;have hlt:=h.lt;have hgB:g'<B:=hX.s;have hfl:=hfb.lt;have hpl:=hpb.lt;clear hc hf hX hL h hfb hpb;go_in;go_wp2_with fail
 refine wp_region_any An ?_;change wpAny _ _ _ _ _ _ _ (World.drew _);have sS:Hid ((fun wx:WD=>wx.cell? ⟨fb,0,none⟩=some (.func (.func g) #[] cs)/\wx.cell? ⟨pb,0,none⟩=some (.slice (some ⟨g',o,none⟩) p.length cap)/\wx.cell? ⟨g',o+i*5,none⟩=some (.int .i64 x.parent)/\wx.cell? ⟨g',o+i*5+1,none⟩=some (.string x.tag)/\wx.cell? ⟨g',o+i*5+2,none⟩=some (.string x.id)/\wx.cell? ⟨g',o+i*5+3,none⟩=some (.slice ca x.classes.length cc)/\wx.cell? ⟨g',o+i*5+4,none⟩=some (.slice aa x.attrs.length ac)) w.drew):=⟨d1,d2,c0,c1,c2,c3,c4⟩;clear d1 d2 c0 c1 c2 c3 c4
 refine wpAny_of_held (S:=(fun wx:WD=>wx.cell? ⟨fb,0,none⟩=some (.func (.func g) #[] cs)/\wx.cell? ⟨pb,0,none⟩=some (.slice (some ⟨g',o,none⟩) p.length cap)/\wx.cell? ⟨g',o+i*5,none⟩=some (.int .i64 x.parent)/\wx.cell? ⟨g',o+i*5+1,none⟩=some (.string x.tag)/\wx.cell? ⟨g',o+i*5+2,none⟩=some (.string x.id)/\wx.cell? ⟨g',o+i*5+3,none⟩=some (.slice ca x.classes.length cc)/\wx.cell? ⟨g',o+i*5+4,none⟩=some (.slice aa x.attrs.length ac))) _ _ _ _ ?_;refine dH 0 rfl sS.o (by intro w hSw;obtain⟨d1,d2,c0,c1,c2,c3,c4⟩:=hSw;exact gs) ?_;refine dH 1 rfl sS.o (by intro w hSw;obtain⟨d1,d2,c0,c1,c2,c3,c4⟩:=hSw;exact gs) ?_;refine dH 2 rfl sS.o (by intro w hSw;obtain⟨d1,d2,c0,c1,c2,c3,c4⟩:=hSw;exact gs) ?_
 refine dH 3 rfl sS.o (by intro w hSw;obtain⟨d1,d2,c0,c1,c2,c3,c4⟩:=hSw;exact gs) ?_;refine dH 4 rfl sS.o (by intro w hSw;obtain⟨d1,d2,c0,c1,c2,c3,c4⟩:=hSw;exact gs) ?_;refine dH 5 rfl sS.o (by intro w hSw;obtain⟨d1,d2,c0,c1,c2,c3,c4⟩:=hSw;exact gs) ?_;refine iW 6 fun K hK=>?_;go_simp;refine HC.o.mono ?_;rintro e wq ⟨rfl,hwq⟩;have BQ:Hid (Below w.heap.size w wq):=(As.drew).trans hwq
 have HSQ:Hid ((fun wx:WD=>wx.cell? ⟨fb,0,none⟩=some (.func (.func g) #[] cs)/\wx.cell? ⟨pb,0,none⟩=some (.slice (some ⟨g',o,none⟩) p.length cap)/\wx.cell? ⟨g',o+i*5,none⟩=some (.int .i64 x.parent)/\wx.cell? ⟨g',o+i*5+1,none⟩=some (.string x.tag)/\wx.cell? ⟨g',o+i*5+2,none⟩=some (.string x.id)/\wx.cell? ⟨g',o+i*5+3,none⟩=some (.slice ca x.classes.length cc)/\wx.cell? ⟨g',o+i*5+4,none⟩=some (.slice aa x.attrs.length ac)) wq):=by obtain⟨d1,d2,c0,c1,c2,c3,c4⟩:=sS.o;have hg':g'<w.heap.size:=oo;have eg:∀k,wq.cell? ⟨g',k,none⟩=w.drew.cell? ⟨g',k,none⟩:=fun k=>BQ.o.cell (p:=⟨g',k,none⟩) hg';refine⟨(BQ.o.cell (p:=⟨fb,0,none⟩) hfl).trans d1,(BQ.o.cell (p:=⟨pb,0,none⟩) hpl).trans d2,(eg _).trans c0,(eg _).trans c1,(eg _).trans c2,(eg _).trans c3,(eg _).trans c4⟩
 clear hwq;refine hK.o _ _ HSQ.o (fun _=>?_);clear hK K;refine dH 7 rfl HSQ.o (fun _ _=>gs) ?_;refine wpAnyH_done An ?_ _;go_wp2_with fail;go_ret;exact⟨rfl,BQ.o⟩
theorem GK(B:Nat)(p:aI)(a:Option Addr)(cap:Nat)(g:Nat)(cs:Array Av)(t:Elem->Bool)(w:WD)(h:jZ B w p a cap)
  (hg:∀(args:Array Av) (w:WD),(callFunc g args).run prog w=.ok (.enter g args) w)
  (hf:∀i,(hi:i<p.length)->∀cv av w',Below w.heap.size w w'->SG eX 1 (fun b=>b<B) w' cv p[i].classes->SG qH 2 (fun b=>b<B) w' av p[i].attrs->Calls prog g (#[Gh p[i] cv av]++cs) w' fun ex w''=>ex=.returned (.bool (t p[i]))/\Below w'.heap.size w' w''):
  Calls prog 328 #[.agg #[.slice a p.length cap],.func (.func g) #[] cs] w fun ex w'=>ex=.returned (.int .u64 (jq (TQ p t) p.length:Int))/\Below w.heap.size w w':=by
 have hmf:=nI;have hlen:=h.len;have hBw:=h.lt;obtain⟨V1,V2,hb⟩:=iR w (.slice a p.length cap) 66 (.func (.func g) #[] cs) 170;have P2:=hid (h.below hb hBw);have c1:=V1.c;have c2:=V2.c;have H1:=hid V1;have H2:=hid V2;have B2:=hid hb
 have HF:=hid hf;have HG:=hid hg;clear V1 V2 hb h hf hg;go_in;go_wp2_with fail;generalize(w.alloc (.cells #[.slice a p.length cap] 66)).alloc (.cells #[.func (.func g) #[] cs] 170)=w2 at *;refine(rZ p.length a cap _ _ (TQ p t) w2 hlen.2 (fun _ _=>rfl) ?_).mono ?_
 .intro i hi w' hb';refine ad9 B p a cap _ _ i g cs t w' (P2.o.below hb' P2.o.lt) hi (H2.o.below hb' H2.o.lt) (H1.o.below hb' H1.o.lt) HG.o ?_;intro cv av w'' aea hcv hav;have hb2:Below w.heap.size w w':=Ay B2.o hb';exact HF.o i hi cv av w'' (hb2.trans (aea.mono hb2.size)) hcv hav
 .rintro e wq ⟨rfl,hwq⟩;have B3:=hid (Ay B2.o hwq);clear hwq;go_wp2_with fail;go_ret;exact⟨rfl,B3.o⟩
def onS(p:aI)(k:Nat)(nm:BY):Nat:=
 if k=116 then(if nm=aA then 2 ^ p.length-1 else jq (TQ p (fun x=>decide (x.tag=nm))) p.length)
 else if k=35 then jq (TQ p (fun x=>decide (x.id=nm))) p.length
 else jq (TQ p (fun x=>x.classes.contains nm)) p.length
def okP(k:Nat):Prop:=k=116\/k=35\/k=46
theorem ajO(p:aI)(k:Nat)(nm:BY)(hp:p.length<=30):onS p k nm<18446744073709551616:=by
 unfold onS;have:=wB p.length hp;repeat' split
 all_goals first|omega|exact uJ _ _ hp
theorem ag6(B:Nat)(p:aI)(a:Option Addr)(cap:Nat)(w:WD)(h:jZ B w p a cap):
  Calls prog 331 #[.agg #[],.agg #[.slice a p.length cap]] w fun ex w'=>ex=.returned (.int .u64 ((2 ^ p.length-1:Nat):Int))/\Below w.heap.size w w':=by
 have hlen:=h.len;clear h;go_in;go_wp2_with fail;refine pmb (TP p.length a cap _ hlen.2) fun wq hwq=>?_;have B3:Hid (Below w.heap.size w wq):=by
  first
   |exact hwq
   |exact(As.alloc nl _).trans (hwq.mono Aa)
   |exact((As.alloc nl _).alloc Aa _).trans (hwq.mono Al)
 clear hwq;go_wp2_with fail;go_ret;exact⟨rfl,B3.o⟩
theorem ajP(x:Elem)(ca aa:Option Addr)(cl cc al ac:Nat)(nm:BY)(tb:Nat)(w:WD)(hb:bU w tb (.string nm) 309):
  Calls prog 329 #[Gh x (.slice ca cl cc) (.slice aa al ac),.pointer (some ⟨tb,0,none⟩)] w fun ex w'=>ex=.returned (.bool (decide (x.tag=nm)))/\Below w.heap.size w w':=by
 unfold Gh;have X2:Hid (XE (w.alloc (.cells #[.int .i64 x.parent,.string x.tag,.string x.id,.slice ca cl cc,.slice aa al ac] 35)) w.heap.size x (.slice ca cl cc) (.slice aa al ac)):=heap_alloc_new w _;have B2:Hid (Below w.heap.size w (w.alloc (.cells #[.int .i64 x.parent,.string x.tag,.string x.id,.slice ca cl cc,.slice aa al ac] 35))):=As.alloc nl _;have c0:=(hb.alloc (.cells #[.int .i64 x.parent,.string x.tag,.string x.id,.slice ca cl cc,.slice aa al ac] 35)).c;obtain⟨d0,d1,d2,d3,d4⟩:=X2.o.cs;have HV:Hid ((x.tag.toList==nm.toList)=decide (x.tag=nm)):=bytes_beq _ _;go_in;go_wp2_with fail;go_ret;exact⟨aC HV.o,B2.o⟩
theorem alM(x:Elem)(ca aa:Option Addr)(cl cc al ac:Nat)(nm:BY)(tb:Nat)(w:WD)(hb:bU w tb (.string nm) 332):
  Calls prog 337 #[Gh x (.slice ca cl cc) (.slice aa al ac),.pointer (some ⟨tb,0,none⟩)] w fun ex w'=>ex=.returned (.bool (decide (x.id=nm)))/\Below w.heap.size w w':=by
 unfold Gh;have X2:Hid (XE (w.alloc (.cells #[.int .i64 x.parent,.string x.tag,.string x.id,.slice ca cl cc,.slice aa al ac] 35)) w.heap.size x (.slice ca cl cc) (.slice aa al ac)):=heap_alloc_new w _;have B2:Hid (Below w.heap.size w (w.alloc (.cells #[.int .i64 x.parent,.string x.tag,.string x.id,.slice ca cl cc,.slice aa al ac] 35))):=As.alloc nl _;have c0:=(hb.alloc (.cells #[.int .i64 x.parent,.string x.tag,.string x.id,.slice ca cl cc,.slice aa al ac] 35)).c;obtain⟨d0,d1,d2,d3,d4⟩:=X2.o.cs;have HV:Hid ((x.id.toList==nm.toList)=decide (x.id=nm)):=bytes_beq _ _;go_in;go_wp2_with fail;go_ret;exact⟨aC HV.o,B2.o⟩
theorem aeb(B:Nat)(x:Elem)(cv:Av)(aa:Option Addr)(al ac:Nat)(nm:BY)(tb:Nat)(w:WD)(hb:bU w tb (.string nm) 333)(hcv:SG eX 1 (fun b=>b<B) w cv x.classes)(hB:B<=w.heap.size):
  Calls prog 341 #[Gh x cv (.slice aa al ac),.pointer (some ⟨tb,0,none⟩)] w fun ex w'=>ex=.returned (.bool (x.classes.contains nm))/\Below w.heap.size w w':=by
 obtain⟨ca,cc,rfl⟩:=hcv.form;unfold Gh;have X2:Hid (XE (w.alloc (.cells #[.int .i64 x.parent,.string x.tag,.string x.id,.slice ca x.classes.length cc,.slice aa al ac] 35)) w.heap.size x (.slice ca x.classes.length cc) (.slice aa al ac)):=heap_alloc_new w _;have B2:Hid (Below w.heap.size w (w.alloc (.cells #[.int .i64 x.parent,.string x.tag,.string x.id,.slice ca x.classes.length cc,.slice aa al ac] 35))):=As.alloc nl _;have c0:=(hb.alloc (.cells #[.int .i64 x.parent,.string x.tag,.string x.id,.slice ca x.classes.length cc,.slice aa al ac] 35)).c;obtain⟨d0,d1,d2,d3,d4⟩:=X2.o.cs;have HS:=hid (hcv.below eX.fair B2.o hB);clear hcv;go_in;go_wp2_with fail
 refine pmb (YL _ x.classes _ nm _ HS.o) fun wq hwq=>?_;rw[hwq];clear hwq;go_wp2_with fail;go_ret;exact⟨rfl,B2.o⟩
theorem ajQ(B:Nat)(p:aI)(a:Option Addr)(cap:Nat)(nm:BY)(w:WD)(h:jZ B w p a cap):
  Calls prog 325 #[.agg #[.string nm],.agg #[.slice a p.length cap]] w fun ex w'=>ex=.returned (.int .u64 (jq (TQ p (fun x=>decide (x.tag=nm))) p.length:Int))/\Below w.heap.size w w':=by
 have hmf:=nI;have hBw:=h.lt;obtain⟨V1,V2,hb⟩:=iR w (.string nm) 309 (.slice a p.length cap) 66;have P2:=hid (h.below hb hBw);have c1:=V1.c;have c2:=V2.c;have H1:=hid V1;have B2:=hid hb;clear V1 V2 hb h;go_in;go_wp2_with fail;generalize(w.alloc (.cells #[.string nm] 309)).alloc (.cells #[.slice a p.length cap] 66)=w2 at *;refine(GK B p a cap _ _ (fun x=>decide (x.tag=nm)) w2 P2.o (fun _ _=>rfl) ?_).mono ?_
 .intro i hi cv av w' hb' hcv hav;obtain⟨ca,cc,rfl⟩:=hcv.form;obtain⟨aa,ac,rfl⟩:=hav.form;exact ajP _ _ _ _ _ _ _ nm _ w' (H1.o.below hb' H1.o.lt)
 .rintro e wq ⟨rfl,hwq⟩;have B3:=hid (Ay B2.o hwq);clear hwq;go_wp2_with fail;go_ret;exact⟨rfl,B3.o⟩
theorem alN(B:Nat)(p:aI)(a:Option Addr)(cap:Nat)(nm:BY)(w:WD)(h:jZ B w p a cap):
  Calls prog 334 #[.agg #[.string nm],.agg #[.slice a p.length cap]] w fun ex w'=>ex=.returned (.int .u64 (jq (TQ p (fun x=>decide (x.id=nm))) p.length:Int))/\Below w.heap.size w w':=by
 have hmf:=nI;have hBw:=h.lt;obtain⟨V1,V2,hb⟩:=iR w (.string nm) 332 (.slice a p.length cap) 66;have P2:=hid (h.below hb hBw);have c1:=V1.c;have c2:=V2.c;have H1:=hid V1;have B2:=hid hb;clear V1 V2 hb h;go_in;go_wp2_with fail;generalize(w.alloc (.cells #[.string nm] 332)).alloc (.cells #[.slice a p.length cap] 66)=w2 at *;refine(GK B p a cap _ _ (fun x=>decide (x.id=nm)) w2 P2.o (fun _ _=>rfl) ?_).mono ?_
 .intro i hi cv av w' hb' hcv hav;obtain⟨ca,cc,rfl⟩:=hcv.form;obtain⟨aa,ac,rfl⟩:=hav.form;exact alM _ _ _ _ _ _ _ nm _ w' (H1.o.below hb' H1.o.lt)
 .rintro e wq ⟨rfl,hwq⟩;have B3:=hid (Ay B2.o hwq);clear hwq;go_wp2_with fail;go_ret;exact⟨rfl,B3.o⟩
theorem aec(B:Nat)(p:aI)(a:Option Addr)(cap:Nat)(nm:BY)(w:WD)(h:jZ B w p a cap):
  Calls prog 338 #[.agg #[.string nm],.agg #[.slice a p.length cap]] w fun ex w'=>ex=.returned (.int .u64 (jq (TQ p (fun x=>x.classes.contains nm)) p.length:Int))/\Below w.heap.size w w':=by
 have hmf:=nI;have hBw:=h.lt;obtain⟨V1,V2,hb⟩:=iR w (.string nm) 333 (.slice a p.length cap) 66;have P2:=hid (h.below hb hBw);have c1:=V1.c;have c2:=V2.c;have H1:=hid V1;have B2:=hid hb;clear V1 V2 hb h;go_in;go_wp2_with fail;generalize(w.alloc (.cells #[.string nm] 333)).alloc (.cells #[.slice a p.length cap] 66)=w2 at *;refine(GK B p a cap _ _ (fun x=>x.classes.contains nm) w2 P2.o (fun _ _=>rfl) ?_).mono ?_
 .intro i hi cv av w' hb' hcv hav;obtain⟨aa,ac,rfl⟩:=hav.form;exact aeb B _ _ _ _ _ nm _ w' (H1.o.below hb' H1.o.lt) hcv (Nat.le_trans P2.o.lt hb'.size)
 .rintro e wq ⟨rfl,hwq⟩;have B3:=hid (Ay B2.o hwq);clear hwq;go_wp2_with fail;go_ret;exact⟨rfl,B3.o⟩
theorem ag7 (W : WD) : (method 503 311 (.agg #[]) "rinse/selectors.on").run prog W = .ok (331, .agg #[]) W := by kernel_rfl
theorem ajR (nm : BY) (W : WD) : (method 503 309 (.agg #[.string nm]) "rinse/selectors.on").run prog W = .ok (325, .agg #[.string nm]) W := by kernel_rfl
theorem alO (nm : BY) (W : WD) : (method 503 332 (.agg #[.string nm]) "rinse/selectors.on").run prog W = .ok (334, .agg #[.string nm]) W := by kernel_rfl
theorem aed (nm : BY) (W : WD) : (method 503 333 (.agg #[.string nm]) "rinse/selectors.on").run prog W = .ok (338, .agg #[.string nm]) W := by kernel_rfl
theorem ag8(B:Nat)(p:aI)(a:Option Addr)(cap:Nat)(k:Nat)(nm how v:BY)(lv:Av)(pl:Nat)(w:WD)(h:jZ B w p a cap)(hk:okP k):
  ∃ T u K rcv, fE k nm how v lv pl = .iface T u ∧ (∀ W : WD, (method 503 T u "rinse/selectors.on").run prog W = .ok (K, rcv) W) ∧ (∀ (args : Array Av) (W : WD), (callFunc K args).run prog W = .ok (.enter K args) W) ∧
   ∀w',Below w.heap.size w w'->Calls prog K #[rcv,.agg #[.slice a p.length cap]] w' fun e w''=>e=.returned (.int .u64 (onS p k nm:Int))/\Below w'.heap.size w' w'':=by
 unfold fE onS;rcases hk with rfl|rfl|rfl
 .rw[if_pos rfl,if_pos rfl];by_cases e:nm=aA
  .rw[if_pos e,if_pos e];exact⟨_,_,_,_,rfl,ag7,fun _ _=>rfl,fun w' hb=>ag6 B p a cap w' (h.below hb h.lt)⟩
  .rw[if_neg e,if_neg e];exact⟨_,_,_,_,rfl,ajR nm,fun _ _=>rfl,fun w' hb=>ajQ B p a cap nm w' (h.below hb h.lt)⟩
 .rw[if_neg (by decide),if_pos rfl,if_neg (by decide),if_pos rfl];exact⟨_,_,_,_,rfl,alO nm,fun _ _=>rfl,fun w' hb=>alN B p a cap nm w' (h.below hb h.lt)⟩
 .rw[if_neg (by decide),if_neg (by decide),if_pos rfl,if_neg (by decide),if_neg (by decide)];exact⟨_,_,_,_,rfl,aed nm,fun _ _=>rfl,fun w' hb=>aec B p a cap nm w' (h.below hb h.lt)⟩
theorem LG.stq{C:wV Simple}{S:Nat->Prop}{w:WD}{l:List Step}{g o i:Nat}(h:LG (fO C) 2 S w l g o)(hi:i<l.length):∃av,w.cell? ⟨g,o+i*2,none⟩=some (.int .i64 (sG l[i].1))/\w.cell? ⟨g,o+i*2+1,none⟩=some av/\SG C 1 S w av l[i].2/\S g:=by
 obtain⟨h0,cs,⟨av,rfl,hs⟩,hc⟩:=h.at l g o i hi;refine⟨av,?_,?_,hs,h0⟩
 .have:=hc 0 _ rfl;rwa[Nat.add_zero]at this
 .exact hc 1 _ rfl
theorem LG.prq{f:Nat}{S:Nat->Prop}{w:WD}{l:List Simple}{g o i:Nat}(h:LG (aQ f) 1 S w l g o)(hi:i<l.length):∃pv,w.cell? ⟨g,o+i,none⟩=some pv/\aQ f S w l[i] [pv]/\S g:=by
 obtain⟨h0,cs,hC,hc⟩:=h.at l g o i hi;have hl:=aQ.sized f _ _ _ _ hC;obtain⟨pv,rfl⟩:∃pv,cs=[pv]:=by
  match cs,hl with
  |[pv],_=>exact⟨pv,rfl⟩
 refine⟨pv,?_,hC,h0⟩;have:=hc 0 _ rfl;rw[Nat.mul_one,Nat.add_zero]at this;exact this
def Vj(w:WD)(b:Nat)(x0 x1:Av):Prop:=w.heap[b]?=some (.cells #[x0,x1] 219 (0,0))
theorem Vj.cs{w:WD}{b:Nat}{x0 x1:Av}(h:Vj w b x0 x1):w.cell? ⟨b,0,none⟩=some x0/\w.cell? ⟨b,1,none⟩=some x1:=by have h':w.heap[b]?=_:=h;refine⟨?_,?_⟩<;>(unfold World.cell?;rw[h'];rfl)
theorem Vj.lt{w:WD}{b:Nat}{x0 x1:Av}(h:Vj w b x0 x1):b<w.heap.size:=(Ax h)
theorem Vj.new(w:WD)(x0 x1:Av):Vj (w.alloc (.cells #[x0,x1] 219)) w.heap.size x0 x1:=heap_alloc_new w _
theorem Vj.below{w w':WD}{b:Nat}{x0 x1:Av}(h:Vj w b x0 x1)(hb:Below w.heap.size w w'):Vj w' b x0 x1:=by show _=_;rw[hb.block _ h.lt];exact h
def frS(p:aI)(cb s:Nat):Nat:=if cb=32 then mD p s p.length else 2 ^ p.length-1
def okS:Simple->Prop
 |.mk k _ _ _ _ _=>okP k
def smS(p:aI):Simple->Nat
 |.mk k nm _ _ _ _=>onS p k nm
def cmS(p:aI)(s:Nat):List Simple->Nat
 |[]=>s
 |x::r=>cmS p (s &&& smS p x) r
def cxS(p:aI)(s:Nat):List Step->Nat
 |[]=>s
 |(cb,all)::r=>cxS p (cmS p (frS p cb s) all) r
def okA(l:List Simple):Prop:=∀s∈l,okS s
def okC(l:List Step):Prop:=∀st∈l,(st.1=0\/st.1=32)/\okA st.2
theorem TR(s t:Nat)(h:s<18446744073709551616):s &&& t<18446744073709551616:=Nat.lt_of_le_of_lt Nat.and_le_left h
abbrev lU:=Nat×Nat×Nat
def Bg(a b:lU):lU:=(a.1+b.1,a.2.1+b.2.1,a.2.2+b.2.2)
def sumW(a:lU):Nat:=a.1+a.2.1+a.2.2
def smW:Simple->lU
 |.mk k nm _ _ _ _=>pwt k nm
def a9W(x:lU):List Simple->lU
 |[]=>x
 |s::r=>a9W (Bg x (smW s)) r
def cxW(x:lU):List Step->lU
 |[]=>x
 |(_,all)::r=>cxW (a9W x all) r
def cnC:List Step->Nat
 |[]=>0
 |(_,all)::r=>all.length+cnC r
theorem ag9(k:Nat)(nm:BY):sumW (pwt k nm)<=1:=by
 unfold pwt;repeat' split
 all_goals(unfold sumW;decide)
theorem sum_add(a b:lU):sumW (Bg a b)=sumW a+sumW b:=by unfold sumW Bg;simp only;omega
def W3n(w:WD)(b:Nat)(x:lU):Prop:=W3 w b (x.1:Int) (x.2.1:Int) (x.2.2:Int)
theorem W3.below{w w':WD}{b:Nat}{x y z:Int}{g:Nat}(h:W3 w b x y z)(hb:Below g w w')(hg:b<g):W3 w' b x y z:=by unfold W3;rw[hb.block _ hg];exact h
theorem bQ(w:WD)(b k:Nat)(cs:Array Av)(T:TypeId)(fz:Nat×Nat)(u:Av)(h:w.heap[b]?=some (.cells cs T fz)):(w.setCell ⟨b,k,none⟩ u).heap[b]?=some (.cells (cs.setIfInBounds k u) T fz):=by unfold World.setCell;simp[Array.getElem?_modify,h]
theorem W3.set(w:WD)(b:Nat)(x y z x' y' z':Int)(h:W3 w b x y z):W3 (((w.setCell ⟨b,0,none⟩ (.int .i64 x')).setCell ⟨b,1,none⟩ (.int .i64 y')).setCell ⟨b,2,none⟩ (.int .i64 z')) b x' y' z':=by have h1:=bQ w b 0 _ _ _ (.int .i64 x') h;have h2:=bQ _ b 1 _ _ _ (.int .i64 y') h1;exact bQ _ b 2 _ _ _ (.int .i64 z') h2
theorem W3.other(w:WD)(b c:Nat)(x y z:Int)(x' y' z':Av)(h:W3 w b x y z)(hne:b≠c):W3 (((w.setCell ⟨c,0,none⟩ x').setCell ⟨c,1,none⟩ y').setCell ⟨c,2,none⟩ z') b x y z:=by unfold W3;rw[Below.heap_setCell _ _ _ _ hne,Below.heap_setCell _ _ _ _ hne,Below.heap_setCell _ _ _ _ hne];exact h
structure Bh(w:WD)(x:lU)(wr:WD):Prop where
 res:W3 wr w.heap.size 0 0 0
 all:W3n wr (w.heap.size+1) x
 below:Below w.heap.size w wr
 size:w.heap.size+2<=wr.heap.size
theorem Bh.next{w:WD}{x:lU}{wr w':WD}(h:Bh w x wr)(hb:Below wr.heap.size wr w'):Bh w x w':=⟨h.res.below hb h.res.lt,W3.below h.all hb (W3.lt h.all),h.below.trans (hb.mono h.below.size),Nat.le_trans h.size hb.size⟩
theorem Bh.drew{w:WD}{x:lU}{wr:WD}(h:Bh w x wr):Bh w x wr.drew:=⟨h.res,h.all,h.below.drew,h.size⟩
theorem Bh.set{w:WD}{x:lU}{wr:WD}(h:Bh w x wr)(y:lU):Bh w y (((wr.setCell ⟨w.heap.size+1,0,none⟩ (.int .i64 (y.1:Int))).setCell ⟨w.heap.size+1,1,none⟩ (.int .i64 (y.2.1:Int))).setCell ⟨w.heap.size+1,2,none⟩ (.int .i64 (y.2.2:Int))):=⟨W3.other _ _ _ _ _ _ _ _ _ h.res oo,W3.set _ _ _ _ _ _ _ _ h.all,jR h.below oo _ _ _,by simpa[World.setCell]using h.size⟩
theorem Bh.set2{w:WD}{x:lU}{wr:WD}(h:Bh w x wr)(y t:lU):Bh w (Bg y t) (((wr.setCell ⟨w.heap.size+1,0,none⟩ (.int .i64 ((y.1:Int)+(t.1:Int)))).setCell ⟨w.heap.size+1,1,none⟩ (.int .i64 ((y.2.1:Int)+(t.2.1:Int)))).setCell ⟨w.heap.size+1,2,none⟩ (.int .i64 ((y.2.2:Int)+(t.2.2:Int)))):=h.set (Bg y t)
abbrev Zd:=Nat×lU
def clC(x:Zd):List Av:=[.int .u64 (x.1:Int),.int .i64 (x.2.1:Int),.int .i64 (x.2.2.1:Int),.int .i64 (x.2.2.2:Int)]
def DJ:wV Zd:=fun _ _ x cs=>cs=clC x
theorem DJ.fair:Fair DJ:=fun _ _ _ _ _ _ _ _ h=>h
theorem DJ.sized:ug DJ 4:=by rintro S w x cs rfl;rfl
def clm(p:aI)(cx:List Step):Zd:=(cxS p 0 cx,cxW (0,0,0) cx)
def okL(l:bY):Prop:=∀cx∈l,okC cx/\cnC cx<=1000000
theorem aee:∃i,prog.info? 248=some i/\i.zero=some (.agg #[.int .u64 0,.int .i64 0,.int .i64 0,.int .i64 0])/\i.size=4/\i.bytes=32:=info_parts An
theorem LG.cxq{f:Nat}{S:Nat->Prop}{w:WD}{l:bY}{g o i:Nat}(h:LG (AA (aQ f)) 1 S w l g o)(hi:i<l.length):∃cv,w.cell? ⟨g,o+i,none⟩=some cv/\SG (fO (aQ f)) 2 S w cv l[i]/\S g:=by obtain⟨h0,cs,⟨cv,rfl,hs⟩,hc⟩:=h.at l g o i hi;refine⟨cv,?_,hs,h0⟩;have:=hc 0 _ rfl;rw[Nat.mul_one,Nat.add_zero]at this;exact this
theorem ajS{a b:Nat}{w:WD}(h:a<=b):∀g,oD b w g->oD a w g:=fun _ hg=>⟨Nat.le_trans h hg.1,hg.2⟩
def JQ(a b:lU):Int:=Pn (a.1:Int) (a.2.1:Int) (a.2.2:Int) (b.1:Int) (b.2.1:Int) (b.2.2:Int)
def NC(e:Nat):lU->Bool->List Zd->lU×Bool
 |f,ok,[]=>(f,ok)
 |f,ok,x::r=>if hasB x.1 (e:Int)=true then NC e (if 0<JQ x.2 f then x.2 else f) true r else NC e f ok r
theorem aef(e:Nat)(f:lU)(ok:Bool){l:List Zd}{i:Nat}(h:i<l.length):NC e f ok (l.drop i)=if hasB l[i].1 (e:Int)=true then NC e (if 0<JQ l[i].2 f then l[i].2 else f) true (l.drop (i+1)) else NC e f ok (l.drop (i+1)):=by rw[List.drop_eq_getElem_cons h];rfl
def C4(w:WD)(b:Nat)(x:Zd):Prop:=w.heap[b]?=some (.cells #[.int .u64 (x.1:Int),.int .i64 (x.2.1:Int),.int .i64 (x.2.2.1:Int),.int .i64 (x.2.2.2:Int)] 248 (0,0))
theorem C4.cs{w:WD}{b:Nat}{x:Zd}(h:C4 w b x):w.cell? ⟨b,0,none⟩=some (.int .u64 (x.1:Int))/\w.cell? ⟨b,1,none⟩=some (.int .i64 (x.2.1:Int))/\w.cell? ⟨b,2,none⟩=some (.int .i64 (x.2.2.1:Int))/\w.cell? ⟨b,3,none⟩=some (.int .i64 (x.2.2.2:Int)):=by have h':w.heap[b]?=_:=h;refine⟨?_,?_,?_,?_⟩<;>(unfold World.cell?;rw[h'];rfl)
theorem C4.lt{w:WD}{b:Nat}{x:Zd}(h:C4 w b x):b<w.heap.size:=(Ax h)
theorem C4.new(w:WD)(x:Zd):C4 (w.alloc (.cells #[.int .u64 (x.1:Int),.int .i64 (x.2.1:Int),.int .i64 (x.2.2.1:Int),.int .i64 (x.2.2.2:Int)] 248)) w.heap.size x:=heap_alloc_new w _
theorem C4.below{w w':WD}{b:Nat}{x:Zd}(h:C4 w b x)(hb:Below w.heap.size w w'):C4 w' b x:=by show _=_;rw[hb.block _ h.lt];exact h
theorem LG.clq{S:Nat->Prop}{w:WD}{l:List Zd}{g o i:Nat}(h:LG DJ 4 S w l g o)(hi:i<l.length):(w.cell? ⟨g,o+i*4,none⟩=some (.int .u64 (l[i].1:Int))/\w.cell? ⟨g,o+i*4+1,none⟩=some (.int .i64 (l[i].2.1:Int))/\w.cell? ⟨g,o+i*4+2,none⟩=some (.int .i64 (l[i].2.2.1:Int))/\w.cell? ⟨g,o+i*4+3,none⟩=some (.int .i64 (l[i].2.2.2:Int)))/\S g:=by obtain⟨h0,cs,rfl,hc⟩:=h.at l g o i hi;refine⟨⟨?_,hc 1 _ rfl,hc 2 _ rfl,hc 3 _ rfl⟩,h0⟩;have:=hc 0 _ rfl;rwa[Nat.add_zero]at this
theorem XD(B:Nat)(cl:List Zd)(v:Av)(e:Nat)(w:WD)(h:SG DJ 4 (fun b=>b<B) w v cl)(hB:B<=w.heap.size)(he:e<64)(hs:∀x∈cl,x.1<18446744073709551616):
  Calls prog 94 #[v,.int .i64 (e:Int)] w fun ex w'=>ex=.returned (.tuple #[Pq (NC e (0,0,0) false cl).1,.bool (NC e (0,0,0) false cl).2])/\Below w.heap.size w w':=by
 have hl:=h.len;have I0:Hid (Bh w (0,0,0) ((w.alloc (.cells #[.int .i64 0,.int .i64 0,.int .i64 0] 177)).alloc (.cells #[.int .i64 0,.int .i64 0,.int .i64 0] 177))):=⟨(W3.new w 0 0 0).alloc _,(wQ w _).o,(Gf w _).o,by simp⟩
 have HS:=hid h;have HL:=hid hs;obtain⟨ca,cc,rfl⟩:=h.form;clear h hs;obtain⟨R,HR⟩:=Nm (NC e (0,0,0) false cl);rw[HR.o];have he1:(e:Int)<64:=oo;go_in;go_wp2_with fail;generalize(w.alloc (.cells #[.int .i64 0,.int .i64 0,.int .i64 0] 177)).alloc (.cells #[.int .i64 0,.int .i64 0,.int .i64 0] 177)=w0 at *;go_loopg[7,12] cl.length (fun gg v7 v12 wr=>∃(x:lU) (ok:Bool) (i:Nat),v7=.bool ok/\v12=.int .i64 (i:Int)/\i+gg=cl.length/\Aside (NC e x ok (cl.drop i)=R/\Bh w x wr));case atStart=>exact⟨(0,0,0),false,0,rfl,rfl,oo,HR.o,I0.o⟩
 case round=>
  obtain⟨go,hgo⟩:∃go,go=gk:=⟨_,rfl⟩;obtain⟨x,ok,i,rfl,rfl,hi,hA⟩:=hrel;have HC:Hid (NC e x ok (cl.drop i)=R/\Bh w x wr):=hA.o;clear hA;have hsr:=HC.o.2.below.size;by_cases hlt:i<cl.length
  .have h1:(i:Int)<(cl.length:Int):=oo;obtain⟨g,o,rfl,hL,hcap⟩:=(HS.o.below DJ.fair HC.o.2.below hB).here (by rintro rfl;simp at hlt);obtain⟨⟨d0,d1,d2,d3⟩,hgB⟩:=hL.clq (i:=i) hlt;have hys:=HL.o cl[i] (List.getElem_mem hlt);have HD:=aef e x ok hlt;generalize cl[i]=y at *;have Ze:=hid (HD.symm.trans HC.o.1);clear hL HD;have T2:Hid (C4 (wr.alloc (.cells #[.int .u64 (y.1:Int),.int .i64 (y.2.1:Int),.int .i64 (y.2.2.1:Int),.int .i64 (y.2.2.2:Int)] 248)) wr.heap.size y):=C4.new _ _;have I2:Hid (Bh w x (wr.alloc (.cells #[.int .u64 (y.1:Int),.int .i64 (y.2.1:Int),.int .i64 (y.2.2.1:Int),.int .i64 (y.2.2.2:Int)] 248))):=HC.o.2.next (As.alloc nl _);go_upto_region 6 with fail
   generalize wr.alloc (.cells #[.int .u64 (y.1:Int),.int .i64 (y.2.1:Int),.int .i64 (y.2.2.1:Int),.int .i64 (y.2.2.2:Int)] 248)=w2 at *;obtain⟨gt,mV⟩:=Nm wr.heap.size;have T3:Hid (C4 w2 gt y):=by rw[<-mV.o];exact T2.o
   rw[mV.o];clear T2 d0 d1 d2 d3;obtain⟨a0,a1,a2,a3⟩:=T3.o.cs;go_wp2_with fail;refine(EN y.1 (e:Int) _ hys oo).mono ?_;obtain⟨b,Hb⟩:=Nm (hasB y.1 (e:Int));rw[Hb.o];rw[Hb.o]at Ze;rintro ex wq ⟨rfl,hwq⟩;rw[hwq];clear hwq;cases b
   .have HE:Hid (NC e x ok (cl.drop (i+1))=R):=by have:=Ze.o;rwa[if_neg (by simp)]at this
    go_wp2_with fail;go_roundg(go-1);case measure=>omega
    case rel=>exact⟨x,ok,i+1,rfl,by congr 1,oo,HE.o,I2.o⟩
   .have HE:Hid (NC e (if 0<JQ y.2 x then y.2 else x) true (cl.drop (i+1))=R):=by have:=Ze.o;rwa[if_pos rfl]at this
    obtain⟨b0,b1,b2⟩:=W3.cs I2.o.all;go_wp2_with fail;refine(Po (y.2.1:Int) (y.2.2.1:Int) (y.2.2.2:Int) (x.1:Int) (x.2.1:Int) (x.2.2:Int) _).mono ?_;obtain⟨c,Hc⟩:=Nm (Pn (y.2.1:Int) (y.2.2.1:Int) (y.2.2.2:Int) (x.1:Int) (x.2.1:Int) (x.2.2:Int));rw[Hc.o];have HCW:Hid (JQ y.2 x=c):=Hc.o;rw[HCW.o]at HE;rintro ex w3 ⟨rfl,hb3⟩;have I3:=hid (I2.o.next hb3);have T4:=hid (T3.o.below hb3);clear hb3 b0 b1 b2 a0 a1 a2 a3 T3;obtain⟨a0,a1,a2,a3⟩:=T4.o.cs;by_cases hc:0<c
    .rw[if_pos hc]at HE;obtain⟨b0,b1,b2⟩:=W3.cs I3.o.all;have z0:=W3.fz I3.o.all 0;have z1:=W3.fz I3.o.all 1;have z2:=W3.fz I3.o.all 2;have I4:=hid (I3.o.set y.2);go_wp2_with fail;go_roundg(go-1);case measure=>omega
     case rel=>exact⟨y.2,true,i+1,rfl,by congr 1,oo,HE.o,I4.o⟩
    .rw[if_neg hc]at HE;have hc':c<=0:=oo;go_wp2_with fail;go_roundg(go-1);case measure=>omega
     case rel=>exact⟨x,true,i+1,rfl,by congr 1,oo,HE.o,I3.o⟩
  .have h1:(cl.length:Int)<=(i:Int):=oo;have HV:Hid ((x,ok)=R):=by
    show _=_;rw[<-HC.o.1,List.drop_of_length_le (show cl.length<=i by omega)];rfl
   obtain⟨b0,b1,b2⟩:=W3.cs HC.o.2.all;obtain⟨r0,r1,r2⟩:=HC.o.2.res.cs;have z0:=HC.o.2.res.fz 0;have z1:=HC.o.2.res.fz 1;have z2:=HC.o.2.res.fz 2;go_wp2_with fail;refine bodyPost_ret (v:=.tuple #[.agg #[.int .i64 (x.1:Int),.int .i64 (x.2.1:Int),.int .i64 (x.2.2:Int)],.bool ok]) (by simp[results,Tryz.results94,go_sem,r0,r1,r2]) rfl ?_;exact⟨by rw[<-HV.o];rfl,jR HC.o.2.below nl _ _ _⟩
open Go.Maps (Keyed)
open Go.ChangeMaps (setBlock modify_eq_set)
def pY(k:TypeId)(w:WD)(b:Nat)(m:Av->Option Av):Prop:=∃es clock,w.heap[b]?=some (.map es clock)/\(∀x∈es.toList,∃l,keyOf prog k x.key=some l)/\(∀x∈es.toList,m x.key=some x.val)/\(∀q v,m q=some v->∃x∈es.toList,x.key=q)/\es.toList.Pairwise (fun x y=>x.key≠y.key)
theorem pY.new(k:TypeId)(w:WD):pY k (w.alloc (.map #[] 0)) w.heap.size (fun _=>none):=⟨#[],0,heap_alloc_new w _,by simp,by simp,by simp,by simp⟩
theorem pY.lt{k:TypeId}{w:WD}{b:Nat}{m:Av->Option Av}(h:pY k w b m):b<w.heap.size:=by obtain⟨es,c,h1,_⟩:=h;exact(Ax h1)
theorem pY.keep{k:TypeId}{w w':WD}{b:Nat}{m:Av->Option Av}(h:pY k w b m)(hb:w'.heap[b]?=w.heap[b]?):pY k w' b m:=by obtain⟨es,c,h1,h2⟩:=h;exact⟨es,c,hb.trans h1,h2⟩
theorem pY.look{k t e:TypeId}{w:WD}{b:Nat}{m:Av->Option Av}(h:pY k w b m)(K:Keyed prog k)(ht:prog.underlying t=some (.map k e)){z:Av}(hz:(zeroValue e).run prog w=.ok z w){key:Av}{l:Go.Lit}(hk:keyOf prog k key=some l):
  (Instr.lookup t (.map (some b)) key true).run prog w=.ok (.tuple #[(m key).getD z,.bool (m key).isSome]) w:=by
 obtain⟨es,c,h1,h2,h3,h4,h5⟩:=h;rcases K.find w hk es.toList h2 with⟨hf,hn⟩|⟨j,e0,hf,hj,he⟩
 .have hm:m key=none:=by
   cases hq:m key with
   |none=>rfl
   |some v=>obtain⟨x,hx,e⟩:=h4 _ _ hq;exact absurd e (hn x hx)
  rw[hm];simp[Instr.lookup,run_underlying ht,MapKept.run_getObj_map h1,K.check w _ hk,hf,hz,Result.andThen]
 .have hm:m key=some e0.val:=by rw[<-he];exact h3 e0 (List.mem_of_getElem? hj)
  rw[hm];simp[Instr.lookup,run_underlying ht,MapKept.run_getObj_map h1,K.check w _ hk,hf,Result.andThen]
theorem pY.upd{k t e:TypeId}{w:WD}{b:Nat}{m m':Av->Option Av}(h:pY k w b m)(K:Keyed prog k)(ht:prog.underlying t=some (.map k e)){key val:Av}{l:Go.Lit}(hk:keyOf prog k key=some l)(h1':m' key=some val)(h2':∀q,q≠key->m' q=m q):
  ∃o,(Instr.mapUpdate t (.map (some b)) key val).run prog w=.ok () (setBlock w b o)/\pY k (setBlock w b o) b m':=by
 have hlt:=h.lt;obtain⟨es,c,h1,h2,h3,h4,h5⟩:=h;have hnew:∀o,(setBlock w b o).heap[b]?=some o:=fun o=>by show(w.heap.setIfInBounds b o)[b]?=_;simp[hlt]
 rcases K.find w hk es.toList h2 with⟨hf,hn⟩|⟨j,e0,hf,hj,he⟩
 .refine⟨.map (es.push ⟨key,val,c⟩) (c+1),?_,es.push ⟨key,val,c⟩,c+1,hnew _,?_,?_,?_,?_⟩
  .simp[Instr.mapUpdate,run_underlying ht,MapKept.run_getObj_map h1,K.check w false hk,hf,MapKept.run_setObj_map _ h1,Result.andThen,setBlock]
  .intro x hx;simp only[Array.toList_push,List.mem_append,List.mem_singleton]at hx;rcases hx with hx|rfl
   .exact h2 x hx
   .exact⟨l,hk⟩
  .intro x hx;simp only[Array.toList_push,List.mem_append,List.mem_singleton]at hx;rcases hx with hx|rfl
   .rw[h2' _ (hn x hx)];exact h3 x hx
   .exact h1'
  .intro q v hq;simp only[Array.toList_push,List.mem_append,List.mem_singleton];by_cases e1:q=key
   .exact⟨_,Or.inr rfl,e1.symm⟩
   .rw[h2' _ e1]at hq;obtain⟨x,hx,e2⟩:=h4 _ _ hq;exact⟨x,Or.inl hx,e2⟩
  .rw[Array.toList_push,List.pairwise_append];refine⟨h5,by simp,fun x hx y hy=>?_⟩;rw[List.mem_singleton.1 hy];exact hn x hx
 .have hj':es[j]?=some e0:=by simpa using hj
  have hjl:j<es.toList.length:=(List.getElem?_eq_some_iff.1 hj).1;have hlist:(es.modify j (fun e'=>{ e' with key:=key,val:=val })).toList=es.toList.set j { e0 with key:=key,val:=val }:=by rw[Array.toList_modify,modify_eq_set _ _ _ _ hj]
  have oth:∀i x,i≠j->es.toList[i]?=some x->x.key≠key:=by
   intro i x hij hx e1;have hp:=List.pairwise_iff_getElem.1 h5;obtain⟨hil,ex⟩:=List.getElem?_eq_some_iff.1 hx;obtain⟨_,ej⟩:=List.getElem?_eq_some_iff.1 hj;rcases Nat.lt_or_gt_of_ne hij with hlt2|hgt
   .exact hp i j hil hjl hlt2 (by rw[ex,ej,e1,he])
   .exact hp j i hjl hil hgt (by rw[ex,ej,e1,he])
  have who:∀x∈es.toList.set j { e0 with key:=key,val:=val },x = { e0 with key:=key,val:=val }\/(x∈es.toList/\x.key≠key):=by
   intro x hx;obtain⟨i,hi,ex⟩:=List.getElem_of_mem hx;rw[List.getElem_set]at ex;split at ex
   .exact Or.inl ex.symm
   .rename_i hne;have hi':i<es.toList.length:=by simpa using hi
    exact Or.inr ⟨ex ▸ List.getElem_mem hi',oth i x (fun e1=>hne e1.symm) (by rw[List.getElem?_eq_getElem hi',ex])⟩
  refine⟨.map (es.modify j (fun e'=>{ e' with key:=key,val:=val })) c,?_,_,c,hnew _,?_,?_,?_,?_⟩
  .simp[Instr.mapUpdate,run_underlying ht,MapKept.run_getObj_map h1,K.check w false hk,hf,hj',he,K.stays w hk,MapKept.run_setObj_map _ h1,Result.andThen,setBlock]
  .intro x hx;rw[hlist]at hx;rcases who x hx with rfl|⟨hx,_⟩
   .exact⟨l,hk⟩
   .exact h2 x hx
  .intro x hx;rw[hlist]at hx;rcases who x hx with rfl|⟨hx,hne⟩
   .exact h1'
   .rw[h2' _ hne];exact h3 x hx
  .intro q v hq;rw[hlist];by_cases e1:q=key
   .exact⟨{ e0 with key:=key,val:=val },List.mem_iff_getElem.2 ⟨j,by simpa using hjl,by simp⟩,e1.symm⟩
   .rw[h2' _ e1]at hq;obtain⟨x,hx,e2⟩:=h4 _ _ hq;obtain⟨i,hi,ex⟩:=List.getElem_of_mem hx;have hne:i≠j:=by
     rintro rfl;have:=(List.getElem?_eq_some_iff.1 hj).2;rw[ex]at this;exact e1 (by rw[<-e2,this,he])
    exact⟨x,List.mem_iff_getElem.2 ⟨i,by simpa using hi,by rw[List.getElem_set_ne (fun e3=>hne e3.symm)];exact ex⟩,e2⟩
  .rw[hlist];rw[List.pairwise_iff_getElem];intro a b' ha hb' hab;have hp:=List.pairwise_iff_getElem.1 h5;have ha':a<es.toList.length:=by simpa using ha
   have hb2:b'<es.toList.length:=by simpa using hb'
   rw[List.getElem_set,List.getElem_set];split
   .rename_i e1;subst e1;rw[if_neg oo];exact fun e2=>oth b' _ oo (List.getElem?_eq_getElem hb2) e2.symm
   .rename_i e1;split
    .exact oth a _ (fun e3=>e1 e3.symm) (List.getElem?_eq_getElem ha')
    .exact hp a b' ha' hb2 hab
open Go.ChangeMaps (setBlock)
open Go.Maps (Keyed string_keyed)
structure jS where
 pr:BY
 val:List Nd
 imp:Bool
 wt:lU
def wnV(x:jS)(v:Av):Av:=.agg #[.string x.pr,v,.bool x.imp,.int .i64 (x.wt.1:Int),.int .i64 (x.wt.2.1:Int),.int .i64 (x.wt.2.2:Int)]
def btW(a b:jS):Bool:=if a.imp=b.imp then decide (0<=JQ a.wt b.wt) else a.imp
def Wn(w:WD)(b:Nat)(x:jS)(v:Av):Prop:=w.heap[b]?=some (.cells #[.string x.pr,v,.bool x.imp,.int .i64 (x.wt.1:Int),.int .i64 (x.wt.2.1:Int),.int .i64 (x.wt.2.2:Int)] 184 (0,0))
theorem Wn.cs{w:WD}{b:Nat}{x:jS}{v:Av}(h:Wn w b x v):w.cell? ⟨b,0,none⟩=some (.string x.pr)/\w.cell? ⟨b,1,none⟩=some v/\w.cell? ⟨b,2,none⟩=some (.bool x.imp)/\w.cell? ⟨b,3,none⟩=some (.int .i64 (x.wt.1:Int))/\w.cell? ⟨b,4,none⟩=some (.int .i64 (x.wt.2.1:Int))/\w.cell? ⟨b,5,none⟩=some (.int .i64 (x.wt.2.2:Int)):=by have h':w.heap[b]?=_:=h;refine⟨?_,?_,?_,?_,?_,?_⟩<;>(unfold World.cell?;rw[h'];rfl)
theorem Wn.lt{w:WD}{b:Nat}{x:jS}{v:Av}(h:Wn w b x v):b<w.heap.size:=(Ax h)
theorem Wn.new(w:WD)(x:jS)(v:Av):Wn (w.alloc (.cells #[.string x.pr,v,.bool x.imp,.int .i64 (x.wt.1:Int),.int .i64 (x.wt.2.1:Int),.int .i64 (x.wt.2.2:Int)] 184)) w.heap.size x v:=heap_alloc_new w _
theorem Wn.below{w w':WD}{b:Nat}{x:jS}{v:Av}(h:Wn w b x v)(hb:Below w.heap.size w w'):Wn w' b x v:=by show _=_;rw[hb.block _ h.lt];exact h
theorem aha(x y:jS)(va:Option Addr)(vl vc:Nat)(ua:Option Addr)(ul uc:Nat)(w:WD):
  Calls prog 160 #[wnV x (.slice va vl vc),wnV y (.slice ua ul uc)] w fun ex w'=>ex=.returned (.bool (btW x y))/\Below w.heap.size w w':=by
 unfold wnV;have A0:Hid (Wn ((w.alloc (.cells #[.string x.pr,.slice va vl vc,.bool x.imp,.int .i64 (x.wt.1:Int),.int .i64 (x.wt.2.1:Int),.int .i64 (x.wt.2.2:Int)] 184)).alloc (.cells #[.string y.pr,.slice ua ul uc,.bool y.imp,.int .i64 (y.wt.1:Int),.int .i64 (y.wt.2.1:Int),.int .i64 (y.wt.2.2:Int)] 184)) w.heap.size x (.slice va vl vc)):=(Wn.new w x _).below (As.alloc nl _);have A1:Hid (Wn ((w.alloc (.cells #[.string x.pr,.slice va vl vc,.bool x.imp,.int .i64 (x.wt.1:Int),.int .i64 (x.wt.2.1:Int),.int .i64 (x.wt.2.2:Int)] 184)).alloc (.cells #[.string y.pr,.slice ua ul uc,.bool y.imp,.int .i64 (y.wt.1:Int),.int .i64 (y.wt.2.1:Int),.int .i64 (y.wt.2.2:Int)] 184)) (w.heap.size+1) y (.slice ua ul uc)):=by have:=Wn.new (w.alloc (.cells #[.string x.pr,.slice va vl vc,.bool x.imp,.int .i64 (x.wt.1:Int),.int .i64 (x.wt.2.1:Int),.int .i64 (x.wt.2.2:Int)] 184)) y (.slice ua ul uc);show Wn _ _ _ _;simpa using this
 have B0:Hid (Below w.heap.size w ((w.alloc (.cells #[.string x.pr,.slice va vl vc,.bool x.imp,.int .i64 (x.wt.1:Int),.int .i64 (x.wt.2.1:Int),.int .i64 (x.wt.2.2:Int)] 184)).alloc (.cells #[.string y.pr,.slice ua ul uc,.bool y.imp,.int .i64 (y.wt.1:Int),.int .i64 (y.wt.2.1:Int),.int .i64 (y.wt.2.2:Int)] 184))):=(As.alloc nl _).alloc Aa _;obtain⟨xi,Hxi⟩:=Nm x.imp;obtain⟨yi,Hyi⟩:=Nm y.imp;have HV:Hid (btW x y=if xi=yi then decide (0<=JQ x.wt y.wt) else xi):=by show _=_;unfold btW;rw[Hxi.o,Hyi.o]
 go_in;go_upto_region 1 with fail
 generalize(w.alloc (.cells #[.string x.pr,.slice va vl vc,.bool x.imp,.int .i64 (x.wt.1:Int),.int .i64 (x.wt.2.1:Int),.int .i64 (x.wt.2.2:Int)] 184)).alloc (.cells #[.string y.pr,.slice ua ul uc,.bool y.imp,.int .i64 (y.wt.1:Int),.int .i64 (y.wt.2.1:Int),.int .i64 (y.wt.2.2:Int)] 184)=w2 at *;obtain⟨a0,a1,a2,a3,a4,a5⟩:=A0.o.cs;obtain⟨c0,c1,c2,c3,c4,c5⟩:=A1.o.cs;rw[Hxi.o]at a2;rw[Hyi.o]at c2;have hsz:=B0.o.size;cases xi<;>cases yi
 .go_wp2_with fail;refine(Po (x.wt.1:Int) (x.wt.2.1:Int) (x.wt.2.2:Int) (y.wt.1:Int) (y.wt.2.1:Int) (y.wt.2.2:Int) _).mono ?_;rintro ex w3 ⟨rfl,hb3⟩;have B3:=hid (B0.o.trans (hb3.mono hsz));clear hb3;have HV':Hid (btW x y=decide (0<=Pn (x.wt.1:Int) (x.wt.2.1:Int) (x.wt.2.2:Int) (y.wt.1:Int) (y.wt.2.1:Int) (y.wt.2.2:Int))):=HV.o;go_wp2_with fail;go_ret;exact⟨by rw[HV'.o];rfl,B3.o⟩
 .go_wp2_with fail;go_ret;exact⟨by rw[HV.o];rfl,B0.o⟩
 .go_wp2_with fail;go_ret;exact⟨by rw[HV.o];rfl,B0.o⟩
 .go_wp2_with fail;refine(Po (x.wt.1:Int) (x.wt.2.1:Int) (x.wt.2.2:Int) (y.wt.1:Int) (y.wt.2.1:Int) (y.wt.2.2:Int) _).mono ?_;rintro ex w3 ⟨rfl,hb3⟩;have B3:=hid (B0.o.trans (hb3.mono hsz));clear hb3;have HV':Hid (btW x y=decide (0<=Pn (x.wt.1:Int) (x.wt.2.1:Int) (x.wt.2.2:Int) (y.wt.1:Int) (y.wt.2.1:Int) (y.wt.2.2:Int))):=HV.o;go_wp2_with fail;go_ret;exact⟨by rw[HV'.o];rfl,B3.o⟩
open Go.ChangeMaps (setBlock)
open Go.Maps (Keyed string_keyed)
def pG(B:Nat)(w:WD)(b:Nat)(f:BY->Option jS):Prop:=
 ∃m,pY 9 w b m/\∀s,match f s with|none=>m (.string s)=none|some x=>x.pr=s/\∃va vc,m (.string s)=some (wnV x (.slice va x.val.length vc))/\Sl (fun g=>g<B) w (.slice va x.val.length vc) x.val
def zG(f:BY->Option jS)(x:jS):BY->Option jS:=fun s=>if s=x.pr then(match f x.pr with|none=>some x|some y=>if btW x y=true then some x else some y) else f s
theorem pG.none{B:Nat}{w:WD}{b:Nat}(h:pY 9 w b (fun _=>.none)):pG B w b (fun _=>.none):=⟨_,h,fun _=>rfl⟩
theorem pG.lt{B:Nat}{w:WD}{b:Nat}{f:BY->Option jS}(h:pG B w b f):b<w.heap.size:=by obtain⟨m,h1,_⟩:=h;exact h1.lt
theorem pG.keep{B:Nat}{w w':WD}{b:Nat}{f:BY->Option jS}(h:pG B w b f)(hb:Below B w w')(he:w'.heap[b]?=w.heap[b]?):pG B w' b f:=by
 obtain⟨m,h1,h2⟩:=h;refine⟨m,h1.keep he,fun s=>?_⟩;have h3:=h2 s;cases hf:f s with
 |none=>rw[hf]at h3;exact h3
 |some x=>rw[hf]at h3;obtain⟨e,va,vc,h4,h5⟩:=h3;exact⟨e,va,vc,h4,h5.below hb nl⟩
theorem qO:Keyed prog 9:=string_keyed Tryz.underlying9
theorem JR(w:WD):(zeroValue 184).run prog w=.ok (.agg #[.string ⟨#[]⟩,.slice none 0 0,.bool false,.int .i64 0,.int .i64 0,.int .i64 0]) w:=by kernel_rfl
theorem zo{s:BY}(h:s.size<=4000000):keyOf prog 9 (.string s)=some (.string s.data.toList):=WideMaps.keyOf_string_mk Tryz.underlying9 Ao
theorem JU{a b:BY}(h:(.string a:Av)=.string b):a=b:=by cases h;rfl
theorem pG.upd{B:Nat}{w:WD}{b:Nat}{f f':BY->Option jS}{x:jS}{va:Option Addr}{vc:Nat}(h:pG B w b f)(hB:B<=b)(hx:Sl (fun g=>g<B) w (.slice va x.val.length vc) x.val)(hp:x.pr.size<=4000000)
  (h1:f' x.pr=some x) (h2:∀s,s≠x.pr->f' s=f s):
  ∃o,(Instr.mapUpdate 127 (.map (some b)) (.string x.pr) (wnV x (.slice va x.val.length vc))).run prog w=.ok () (setBlock w b o)/\pG B (setBlock w b o) b f':=by
 obtain⟨m,hm,hf⟩:=h;have hlt:=hm.lt;open Classical in
 obtain⟨o,hr,hm'⟩:=hm.upd (m':=fun q=>if q=.string x.pr then some (wnV x (.slice va x.val.length vc)) else m q) qO Tryz.underlying127 (zo hp) (if_pos rfl) (fun q hq=>if_neg hq);have hbl:Below B w (setBlock w b o):=⟨rfl,rfl,rfl,by show _<=(w.heap.setIfInBounds b o).size;simp,fun g hg=>by show(w.heap.setIfInBounds b o)[g]?=_;rw[Array.getElem?_setIfInBounds_ne oo]⟩
 refine⟨o,hr,_,hm',fun s=>?_⟩;by_cases e:s=x.pr
 .subst e;rw[h1];exact⟨rfl,va,vc,if_pos rfl,hx.below hbl nl⟩
 .rw[h2 s e];have h3:=hf s;have hne:¬(Value.string s=.string x.pr):=fun h=>e (JU h);cases hq:f s with
  |none=>rw[hq]at h3;exact(if_neg hne).trans h3
  |some y=>rw[hq]at h3;obtain⟨e1,va',vc',h4,h5⟩:=h3;exact⟨e1,va',vc',(if_neg hne).trans h4,h5.below hbl nl⟩
theorem JV{mb:Nat}{w w2:WD}{o:Obj}(h:Below w.heap.size w w2):Turn mb w (setBlock w2 mb o):=
 ⟨h.os,h.tape,h.output,by show _<=(w2.heap.setIfInBounds mb o).size;simpa using h.size,fun g hg hne=>by show(w2.heap.setIfInBounds mb o)[g]?=_;rw[Array.getElem?_setIfInBounds_ne (fun e=>hne e.symm)];exact h.block g hg⟩
theorem ahb(B:Nat)(f:BY->Option jS)(mb:Nat)(x:jS)(va:Option Addr)(vc:Nat)(w:WD)(h:pG B w mb f)(hB:B<=mb)(hx:Sl (fun g=>g<B) w (.slice va x.val.length vc) x.val)(hp:x.pr.size<=4000000):
  Calls prog 95 #[.map (some mb),wnV x (.slice va x.val.length vc)] w fun ex w'=>ex=.returned (.tuple #[])/\pG B w' mb (zG f x)/\Turn mb w w':=by
 have hml:=h.lt;have B0:Hid (Below w.heap.size w (w.alloc (.cells #[.string x.pr,.slice va x.val.length vc,.bool x.imp,.int .i64 (x.wt.1:Int),.int .i64 (x.wt.2.1:Int),.int .i64 (x.wt.2.2:Int)] 184))):=As.alloc nl _;have A0:Hid (Wn (w.alloc (.cells #[.string x.pr,.slice va x.val.length vc,.bool x.imp,.int .i64 (x.wt.1:Int),.int .i64 (x.wt.2.1:Int),.int .i64 (x.wt.2.2:Int)] 184)) w.heap.size x (.slice va x.val.length vc)):=Wn.new _ _ _;have M0:Hid (pG B (w.alloc (.cells #[.string x.pr,.slice va x.val.length vc,.bool x.imp,.int .i64 (x.wt.1:Int),.int .i64 (x.wt.2.1:Int),.int .i64 (x.wt.2.2:Int)] 184)) mb f):=h.keep (B0.o.mono oo) (B0.o.block _ hml)
 have HX:=hid (hx.below B0.o oo);clear h hx;unfold wnV;go_in;go_upto_region 1 with fail
 generalize w.alloc (.cells #[.string x.pr,.slice va x.val.length vc,.bool x.imp,.int .i64 (x.wt.1:Int),.int .i64 (x.wt.2.1:Int),.int .i64 (x.wt.2.2:Int)] 184)=w1 at *;obtain⟨nb,Gi⟩:=Nm w.heap.size;rw[Gi.o]at A0;rw[Gi.o];obtain⟨a0,a1,a2,a3,a4,a5⟩:=A0.o.cs;obtain⟨m,hm,hf⟩:=M0.o;have hlk:=hm.look qO Tryz.underlying127 (JR w1) (zo hp);have hfx:=hf x.pr;cases hfp:f x.pr with
 |none=>
  rw[hfp]at hfx;have yD:m (.string x.pr)=none:=hfx;rw[yD]at hlk;clear hf hfx yD hm;have B1:Hid (Below w1.heap.size w1 (w1.alloc (.cells #[.string ⟨#[]⟩,.slice none 0 0,.bool false,.int .i64 0,.int .i64 0,.int .i64 0] 184))):=As.alloc nl _;go_upto_region 2 with fail
  generalize w1.alloc (.cells #[.string ⟨#[]⟩,.slice none 0 0,.bool false,.int .i64 0,.int .i64 0,.int .i64 0] 184)=w2 at *;have A2:=hid (A0.o.below B1.o);have BW:=hid (Ay B0.o B1.o);have M2:Hid (pG B w2 mb f):=M0.o.keep (B1.o.mono (by have:=B0.o.size;omega)) (B1.o.block _ (by have:=B0.o.size;omega));have HX2:Hid (Sl (fun g=>g<B) w2 (.slice va x.val.length vc) x.val):=HX.o.below B1.o (by have:=B0.o.size;omega);clear a0 a1 a2 a3 a4 a5 hlk;obtain⟨a0,a1,a2,a3,a4,a5⟩:=A2.o.cs;obtain⟨o,hr,hM⟩:=M2.o.upd (f':=zG f x) hB HX2.o hp (by unfold zG;rw[if_pos rfl,hfp]) (fun s hs=>by unfold zG;rw[if_neg hs]);unfold wnV at hr;have HE:=hid hM;have HT:Hid (Turn mb w (setBlock w2 mb o)):=JV BW.o;clear hM;go_wp2_with fail;go_end0
  exact⟨rfl,HE.o,HT.o⟩
 |some y=>
  rw[hfp]at hfx;obtain⟨epr,ya,yc,yD,hys⟩:=hfx;rw[yD]at hlk;have EPR:=hid epr;clear epr;unfold wnV at hlk;simp only[Option.getD_some,Option.isSome_some]at hlk;clear hf yD hm;have B1:Hid (Below w1.heap.size w1 (w1.alloc (.cells #[.string y.pr,.slice ya y.val.length yc,.bool y.imp,.int .i64 (y.wt.1:Int),.int .i64 (y.wt.2.1:Int),.int .i64 (y.wt.2.2:Int)] 184))):=As.alloc nl _;have Y2:Hid (Wn (w1.alloc (.cells #[.string y.pr,.slice ya y.val.length yc,.bool y.imp,.int .i64 (y.wt.1:Int),.int .i64 (y.wt.2.1:Int),.int .i64 (y.wt.2.2:Int)] 184)) w1.heap.size y (.slice ya y.val.length yc)):=Wn.new _ _ _;go_upto_region 2 with fail
  generalize w1.alloc (.cells #[.string y.pr,.slice ya y.val.length yc,.bool y.imp,.int .i64 (y.wt.1:Int),.int .i64 (y.wt.2.1:Int),.int .i64 (y.wt.2.2:Int)] 184)=w2 at *;have A2:=hid (A0.o.below B1.o);have BW:=hid (Ay B0.o B1.o);have M2:Hid (pG B w2 mb f):=M0.o.keep (B1.o.mono (by have:=B0.o.size;omega)) (B1.o.block _ (by have:=B0.o.size;omega));have HX2:Hid (Sl (fun g=>g<B) w2 (.slice va x.val.length vc) x.val):=HX.o.below B1.o (by have:=B0.o.size;omega);have hs2:=BW.o.size;clear a0 a1 a2 a3 a4 a5 hlk hys;obtain⟨a0,a1,a2,a3,a4,a5⟩:=A2.o.cs;obtain⟨c0,c1,c2,c3,c4,c5⟩:=Y2.o.cs;go_wp2_with fail;refine(aha x y va x.val.length vc ya y.val.length yc _).mono ?_;obtain⟨b,Hb⟩:=Nm (btW x y);rw[Hb.o];rintro ex w3 ⟨rfl,hb3⟩
  have A3:=hid (A2.o.below hb3);have BW3:=hid (BW.o.trans (hb3.mono hs2));have M3:Hid (pG B w3 mb f):=M2.o.keep (hb3.mono oo) (hb3.block _ oo);have HX3:=hid (HX2.o.below hb3 oo);clear hb3 a0 a1 a2 a3 a4 a5 c0 c1 c2 c3 c4 c5;obtain⟨a0,a1,a2,a3,a4,a5⟩:=A3.o.cs;cases b
  .have HE:Hid (zG f x=f):=by
    show _=_;funext s
    unfold zG;by_cases e:s=x.pr
    .rw[if_pos e,hfp,e,hfp];show(if btW x y=true then some x else some y)=some y;rw[Hb.o];rfl
    .rw[if_neg e]
   have HT:Hid (Turn mb w w3):=Turn.of_below BW3.o;go_wp2_with fail;go_end0
   exact⟨rfl,by rw[HE.o];exact M3.o,HT.o⟩
  .obtain⟨o,hr,hM⟩:=M3.o.upd (f':=zG f x) hB HX3.o hp (by unfold zG;rw[if_pos rfl,hfp];show(if btW x y=true then some x else some y)=some x;rw[Hb.o];rfl) (fun s hs=>by unfold zG;rw[if_neg hs]);unfold wnV at hr;have HE:=hid hM;have HT:Hid (Turn mb w (setBlock w3 mb o)):=JV BW3.o;clear hM;go_wp2_with fail;go_end0
   exact⟨rfl,HE.o,HT.o⟩
section
attribute [local go_sem] bI bJ aX aY
def CDv:wV (Dec×Av):=fun _ _ x cs=>cs=[.string x.1.prop,x.2,.bool x.1.imp]
theorem CDv.fair:Fair CDv:=fun _ _ _ _ _ _ _ _ h=>h
theorem CDv.sized:ug CDv 3:=by rintro S w x cs rfl;rfl
def ahc(B:Nat)(w:WD)(x:Dec×Av):Prop:=(∃va vc,x.2=.slice va x.1.val.length vc)/\Sl (fun b=>b<B) w x.2 x.1.val/\x.1.prop.size<=4000000
theorem aiv{B:Nat}{S:Nat->Prop}{w:WD}:∀ {l:List Dec}{cs:List Av},jC vS (fun b=>b<B) w l cs->∃xs:List (Dec×Av),xs.map Prod.fst=l/\jC CDv S w xs cs/\∀x∈xs,ahc B w x
 |[],_,h=>⟨[],rfl,h,by simp⟩
 |d::_,_,⟨c,rest,e,⟨vv,h1,h2,h3⟩,h4⟩=>by
  obtain⟨xs,e1,e2,e3⟩:=aiv (S:=S) h4;refine⟨(d,vv)::xs,by rw[List.map_cons,e1],⟨c,rest,e,h1,e2⟩,?_⟩;intro x hx;rcases List.mem_cons.1 hx with rfl|hx
  .exact⟨h2.form,h2,h3⟩
  .exact e3 x hx
theorem ahd{B:Nat}{w:WD}{base:Nat}{u:Av}{acc:List Dec}{cs:List Av}(h1:w.ownsRow base 181 3 u acc.length cs)(h2:jC vS (fun b=>b<B) w acc cs)(h6:acc.length<=2097152):
  ∃xs:List (Dec×Av),xs.map Prod.fst=acc/\SG CDv 3 (oD base w) w u xs/\∀x∈xs,ahc B w x:=by
 obtain⟨xs,e1,e2,e3⟩:=aiv (S:=DZ base w u) h2;have hl:xs.length=acc.length:=by rw[<-e1,List.length_map]
 exact⟨xs,e1,(show MG CDv 3 181 base w u xs from⟨cs,by rw[hl];exact h1,e2⟩).sl CDv.fair CDv.sized oo,e3⟩
theorem JW(B:Nat)(l:List Nd)(v:Av)(w:WD)(h:Sl (fun b=>b<B) w v l)(hB:B<=w.heap.size):
  Calls prog 93 #[v] w fun e w'=>∃u,e=.returned u/\(∃xs:List (Dec×Av),xs.map Prod.fst=decls l/\SG CDv 3 (oD w.heap.size w') w' u xs/\∀x∈xs,ahc B w' x)/\Below w.heap.size w w':=by
 refine(xW B l v w h hB).mono ?_;rintro e w' ⟨u,cs,h1,⟨h2,h3,h4,_⟩,h6⟩;exact⟨u,h1,ahd h2 h3 h4,h6⟩
end
structure dJ(bs:List Nat)(w w':WD):Prop where
 os:w'.os=w.os
 tape:w'.tape=w.tape
 output:w'.output=w.output
 size:w.heap.size<=w'.heap.size
 block:∀k,k<w.heap.size->k ∉ bs->w'.heap[k]?=w.heap[k]?
theorem dJ.refl(bs:List Nat)(w:WD):dJ bs w w:=⟨rfl,rfl,rfl,Nat.le_refl _,fun _ _ _=>rfl⟩
theorem dJ.trans{bs:List Nat}{x y z:WD}(h:dJ bs x y)(k:dJ bs y z):dJ bs x z:=⟨k.os.trans h.os,k.tape.trans h.tape,k.output.trans h.output,Nat.le_trans h.size k.size,fun g hg hb=>(k.block g (Nat.lt_of_lt_of_le hg h.size) hb).trans (h.block g hg hb)⟩
theorem dJ.of_below{bs:List Nat}{x y:WD}(h:Below x.heap.size x y):dJ bs x y:=⟨h.os,h.tape,h.output,h.size,fun g hg _=>h.block g hg⟩
theorem dJ.ahe{bs:List Nat}{b:Nat}{x y:WD}(h:Turn b x y)(hb:b∈bs):dJ bs x y:=⟨h.os,h.tape,h.output,h.size,fun g hg hn=>h.block g hg (fun e=>hn (e ▸ hb))⟩
theorem dJ.below{bs:List Nat}{B:Nat}{x y:WD}(h:dJ bs x y)(hB:∀b∈bs,B<=b)(hx:B<=x.heap.size):Below B x y:=⟨h.os,h.tape,h.output,h.size,fun g hg=>h.block g oo (fun hm=>by have:=hB g hm;omega)⟩
def mF(B:Nat)(w:WD)(bs:List Nat)(G:Nat->BY->Option jS):Prop:=∀i (h:i<bs.length),pG B w bs[i] (G i)
theorem mF.below{B:Nat}{w w':WD}{bs:List Nat}{G:Nat->BY->Option jS}(h:mF B w bs G)(hb:Below w.heap.size w w')(hB:B<=w.heap.size):mF B w' bs G:=fun i hi=>(h i hi).keep (hb.mono hB) (hb.block _ (h i hi).lt)
theorem mF.upd{B:Nat}{w w':WD}{bs:List Nat}{G:Nat->BY->Option jS}{g:BY->Option jS}{k:Nat}(h:mF B w bs G)(hk:k<bs.length)(ht:Turn bs[k] w w')(hw:pG B w' bs[k] g)(hd:bs.Nodup)(hB:∀b∈bs,B<=b):
  mF B w' bs (fun i=>if i=k then g else G i):=by
 intro i hi;by_cases e:i=k
 .subst e;simp only[if_pos];exact hw
 .simp only[if_neg e];have hne:bs[i]≠bs[k]:=fun e2=>e ((List.getElem_inj hd).1 e2);have hkB:=hB bs[k] (List.getElem_mem hk);have hl:=(h k hk).lt;exact(h i hi).keep (ht.below hkB oo) (ht.block _ (h i hi).lt hne)
theorem LG.dvq{S:Nat->Prop}{w:WD}{l:List (Dec×Av)}{g o i:Nat}(h:LG CDv 3 S w l g o)(hi:i<l.length):(w.cell? ⟨g,o+i*3,none⟩=some (.string l[i].1.prop)/\w.cell? ⟨g,o+i*3+1,none⟩=some l[i].2/\w.cell? ⟨g,o+i*3+2,none⟩=some (.bool l[i].1.imp))/\S g:=by obtain⟨h0,cs,rfl,hc⟩:=h.at l g o i hi;refine⟨⟨?_,hc 1 _ rfl,hc 2 _ rfl⟩,h0⟩;have:=hc 0 _ rfl;rwa[Nat.add_zero]at this
theorem jZ.mono{B B':Nat}{w:WD}{p:aI}{a:Option Addr}{cap:Nat}(h:jZ B w p a cap)(h1:B<=B')(h2:B'<=w.heap.size):jZ B' w p a cap:=⟨h.sg.mono wO.fair h1,h2,h.pg⟩
def Py(t:lU)(g:BY->Option jS)(d:Dec):BY->Option jS:=zG g ⟨d.prop,d.val,d.imp,t⟩
def qg(cl:List Zd)(ds:List Dec)(i:Nat)(g:BY->Option jS):BY->Option jS:=if (NC i (0,0,0) false cl).2=true then ds.foldl (Py (NC i (0,0,0) false cl).1) g else g
theorem Bj{α β:Type}(f:β->α->β)(b:β)(l:List α){j:Nat}(h:j<l.length):(l.take (j+1)).foldl f b=f ((l.take j).foldl f b) l[j]:=by rw[List.take_succ_eq_append_getElem h,List.foldl_append];rfl
def K3(w:WD)(b:Nat)(x0 x1 x2:Av):Prop:=w.heap[b]?=some (.cells #[x0,x1,x2] 77 (0,0))
theorem K3.cs{w:WD}{b:Nat}{x0 x1 x2:Av}(h:K3 w b x0 x1 x2):w.cell? ⟨b,0,none⟩=some x0/\w.cell? ⟨b,1,none⟩=some x1/\w.cell? ⟨b,2,none⟩=some x2:=by have h':w.heap[b]?=_:=h;refine⟨?_,?_,?_⟩<;>(unfold World.cell?;rw[h'];rfl)
theorem K3.lt{w:WD}{b:Nat}{x0 x1 x2:Av}(h:K3 w b x0 x1 x2):b<w.heap.size:=(Ax h)
theorem K3.new(w:WD)(x0 x1 x2:Av):K3 (w.alloc (.cells #[x0,x1,x2] 77)) w.heap.size x0 x1 x2:=heap_alloc_new w _
theorem K3.below{w w':WD}{b:Nat}{x0 x1 x2:Av}(h:K3 w b x0 x1 x2)(hb:Below w.heap.size w w'):K3 w' b x0 x1 x2:=by show _=_;rw[hb.block _ h.lt];exact h
def aqa(p:aI)(r:Rule)(i:Nat)(g:BY->Option jS):BY->Option jS:=
 match lM (depth r.head) r.head with
 |none=>g
 |some ss=>if r.at_.getD aA=aA then qg (ss.map (clm p)) (decls (r.body.getD [])) i g else g
def E3(w:WD)(b:Nat)(x0 x1 x2:Av):Prop:=w.heap[b]?=some (.cells #[x0,x1,x2] 181 (0,0))
theorem E3.cs{w:WD}{b:Nat}{x0 x1 x2:Av}(h:E3 w b x0 x1 x2):w.cell? ⟨b,0,none⟩=some x0/\w.cell? ⟨b,1,none⟩=some x1/\w.cell? ⟨b,2,none⟩=some x2:=by have h':w.heap[b]?=_:=h;refine⟨?_,?_,?_⟩<;>(unfold World.cell?;rw[h'];rfl)
theorem E3.new(w:WD)(x0 x1 x2:Av):E3 (w.alloc (.cells #[x0,x1,x2] 181)) w.heap.size x0 x1 x2:=heap_alloc_new w _
structure aa7(B:Nat)(w:WD)(p:aI)(a:Option Addr)(cap:Nat)(wa:Option Addr)(wc:Nat)(bs:List Nat):Prop where
 pg:jZ B w p a cap
 win:∃rb o,wa=some ⟨rb,o,none⟩/\∀i (h:i<bs.length),w.cell? ⟨rb,o+i,none⟩=some (.map (some bs[i]))
 len:bs.length=p.length
 cap:bs.length<=wc
 nd:bs.Nodup
 lo:∀b∈bs,B<=b
theorem wC{k:TypeId}{w:WD}{b rb o:Nat}{v:Av}{m:Av->Option Av}(h:pY k w b m)(hc:w.cell? ⟨rb,o,none⟩=some v):rb≠b:=by rintro rfl;obtain⟨es,c,h1,_⟩:=h;unfold World.cell? at hc;rw[h1]at hc;cases hc
theorem cell_lt{w:WD}{rb o:Nat}{v:Av}(hc:w.cell? ⟨rb,o,none⟩=some v):rb<w.heap.size:=by
 apply Classical.byContradiction
 intro h;unfold World.cell? at hc;rw[Array.getElem?_eq_none (show w.heap.size<=rb by omega)]at hc;cases hc
theorem ajT(n:Nat)(a:Option Addr)(cap:Nat)(w:WD):
  Calls prog 61 #[.agg #[.slice a n cap]] w fun ex w'=>ex=.returned (.int .i64 (n:Int))/\Below w.heap.size w w':=by
 have B1:Hid (Below w.heap.size w (w.alloc (.cells #[.slice a n cap] 66))):=As.alloc nl _;have V1:Hid (bU (w.alloc (.cells #[.slice a n cap] 66)) w.heap.size (.slice a n cap) 66):=bU.new _ _ _;have c0:=V1.o.c;go_in;go_wp2_with fail;go_ret;exact⟨rfl,B1.o⟩
theorem ahf:∃i,prog.info? 127=some i/\i.zero=some (.map none)/\i.size=1/\i.bytes=8:=info_parts An
theorem aa8{w:WD}{base e s n:Nat}{v:Av}{xs:List Av}(h:w.ownsRow base e s v n xs){k:TypeId}{b:Nat}{m:Av->Option Av}(hm:pY k w b m):v.ownBlock≠some b:=by
 intro e1;obtain⟨es,c,h1,_⟩:=hm;rcases h.2 with⟨rfl,_⟩|⟨g,cap,cur,rfl,_,hg,_⟩
 .cases e1
 .cases e1;rw[h1]at hg;cases hg
def mpV(b:Nat):Av:=.map (some b)
structure OfI(w:WD)(pv u:Av)(bs:List Nat)(wr:WD):Prop where
 row:wr.ownsRow (w.heap.size+4) 127 1 u bs.length (bs.map mpV)
 cas:K3 wr (w.heap.size+1+1+1) pv u (.map (some (w.heap.size+1+1)))
 res:K3 wr (w.heap.size+1) (.slice none 0 0) (.slice none 0 0) (.map none)
 known:pY 133 wr (w.heap.size+1+1) (fun _=>none)
 maps:∀b∈bs,pY 9 wr b (fun _=>none)
 lo:∀b∈bs,w.heap.size+4<=b
 nd:bs.Nodup
 below:Below w.heap.size w wr
 size:w.heap.size+4<=wr.heap.size
theorem OfI.next{w:WD}{pv u:Av}{bs:List Nat}{wr w':WD}(h:OfI w pv u bs wr)(hb:Below wr.heap.size wr w'):OfI w pv u bs w':=⟨aP h.row fun r hr=>hb.block r (h.row.lt r hr).2,h.cas.below hb,h.res.below hb,h.known.keep (hb.block _ h.known.lt),fun b hm=>(h.maps b hm).keep (hb.block _ (h.maps b hm).lt),h.lo,h.nd,h.below.trans (hb.mono h.below.size),Nat.le_trans h.size hb.size⟩
theorem OfI.more{w:WD}{pv u u':Av}{bs:List Nat}{wr w':WD}{m:Nat}(h:OfI w pv u bs wr)(hm:m=wr.heap.size)
  (hrow:w'.ownsRow (w.heap.size+4) 127 1 u' (bs.length+1) (bs.map mpV++[mpV m])) (hg:((wr.alloc (.map #[] 0)).alloc (.cells #[mpV m] 127)).grownBy w' u.ownBlock):
  OfI w pv u' (bs++[m]) (w'.setCell ⟨w.heap.size+1+1+1,1,none⟩ u'):=by
 have hsz:=h.size;have hlo:∀rr,u.ownBlock=some rr->w.heap.size+4<=rr:=fun rr hr=>(h.row.lt rr hr).1;have keep:∀b,b<wr.heap.size->some b≠u.ownBlock->w'.heap[b]?=wr.heap[b]?:=fun b hb hn=>by rw[hg.block b (by simp;omega) hn,Below.heap_alloc _ _ _ Al,Below.heap_alloc _ _ _ hb]
 have aeg:∀b,b<wr.heap.size->some b≠u.ownBlock->b≠w.heap.size+1+1+1->(w'.setCell ⟨w.heap.size+1+1+1,1,none⟩ u').heap[b]?=wr.heap[b]?:=fun b hb hn hc=>by rw[Below.heap_setCell _ _ _ _ hc];exact keep b hb hn
 have ajU:∀b,b<w.heap.size+4->some b≠u.ownBlock:=fun b hb e=>by have:=hlo b e.symm;omega
 have hmn:(w'.setCell ⟨w.heap.size+1+1+1,1,none⟩ u').heap[m]?=some (.map #[] 0):=by
  have hu:some m≠u.ownBlock:=fun e=>by have:=(h.row.lt m e.symm).2;omega
  rw[Below.heap_setCell _ _ _ _ (show m≠_ by show m≠w.heap.size+1+1+1;omega),hg.block m Al hu,Below.heap_alloc _ _ _ Al,hm];exact heap_alloc_new wr _
 have hcas:w'.heap[w.heap.size+1+1+1]?=_:=(keep _ oo (ajU _ oo)).trans h.cas;refine⟨?_,?_,?_,?_,?_,?_,?_,?_,?_⟩
 .rw[List.length_append,List.map_append];refine aP hrow fun r hr=>?_;have:=(hrow.lt r hr).1;exact Below.heap_setCell _ _ _ _ (by show r≠w.heap.size+1+1+1;omega)
 .exact bQ w' _ 1 _ _ _ u' hcas
 .exact(show _=_ from(aeg _ oo (ajU _ oo) oo).trans h.res)
 .exact h.known.keep (aeg _ oo (ajU _ oo) oo)
 .intro b hb;rcases List.mem_append.1 hb with hb|hb
  .exact(h.maps b hb).keep (aeg _ (h.maps b hb).lt (fun e=>aa8 h.row (h.maps b hb) e.symm) (by have:=h.lo b hb;omega))
  .rw[List.mem_singleton.1 hb];exact⟨#[],0,hmn,by simp,by simp,by simp,by simp⟩
 .intro b hb;rcases List.mem_append.1 hb with hb|hb
  .exact h.lo b hb
  .rw[List.mem_singleton.1 hb];omega
 .rw[List.nodup_append];refine⟨h.nd,by simp,fun x hx y hy e=>?_⟩;rw[List.mem_singleton.1 hy]at e;have:=(h.maps x hx).lt;omega
 .exact(((h.below.alloc h.below.size _).alloc (by simp;have:=h.below.size;omega) _).grown hg Al (fun rr hr=>by have:=hlo rr hr;omega)).setCell (p:=⟨w.heap.size+1+1+1,1,none⟩) (by show w.heap.size<=w.heap.size+1+1+1;omega) _
 .have:=hg.size;simp[World.setCell]at this⊢;omega
theorem LG.shq{S:Nat->Prop}{w:WD}{l:List (List Rule)}{g o i:Nat}(h:LG (One dB 4) 1 S w l g o)(hi:i<l.length):∃cv,w.cell? ⟨g,o+i,none⟩=some cv/\SG dB 4 S w cv l[i]/\S g:=by obtain⟨h0,cs,⟨cv,rfl,hs⟩,hc⟩:=h.at l g o i hi;refine⟨cv,?_,hs,h0⟩;have:=hc 0 _ rfl;rw[Nat.mul_one,Nat.add_zero]at this;exact this
theorem LG.rlq{S:Nat->Prop}{w:WD}{l:List Rule}{g o i:Nat}(h:LG dB 4 S w l g o)(hi:i<l.length):∃hv bv bl,(w.cell? ⟨g,o+i*4,none⟩=some (.string (l[i].at_.getD aA))/\w.cell? ⟨g,o+i*4+1,none⟩=some hv/\w.cell? ⟨g,o+i*4+2,none⟩=some (.bool l[i].body.isSome)/\w.cell? ⟨g,o+i*4+3,none⟩=some bv)/\Sl S w hv l[i].head/\Sl S w bv bl/\(∀b,l[i].body=some b->bl=b)/\S g:=by obtain⟨h0,cs,⟨hv,bv,bl,rfl,h1,h2,h3,_⟩,hc⟩:=h.at l g o i hi;refine⟨hv,bv,bl,⟨?_,hc 1 _ rfl,hc 2 _ rfl,hc 3 _ rfl⟩,h1,h2,h3,h0⟩;have:=hc 0 _ rfl;rwa[Nat.add_zero]at this
theorem K3.fz{w:WD}{b:Nat}{x0 x1 x2:Av}(h:K3 w b x0 x1 x2)(k:Nat):w.frozen? ⟨b,k,none⟩=false:=by have h':w.heap[b]?=_:=h;unfold World.frozen?;rw[h'];simp
theorem aeh(w:WD)(v:Av):
  OfI w v (.slice none 0 0) [] ((((w.alloc (.cells #[v] 66)).alloc (.cells #[.slice none 0 0,.slice none 0 0,.map none] 77)).alloc (.map #[] 0)).alloc (.cells #[v,.slice none 0 0,.map (some (w.heap.size+1+1))] 77)) /\
  bU ((((w.alloc (.cells #[v] 66)).alloc (.cells #[.slice none 0 0,.slice none 0 0,.map none] 77)).alloc (.map #[] 0)).alloc (.cells #[v,.slice none 0 0,.map (some (w.heap.size+1+1))] 77)) w.heap.size v 66:=by
 refine⟨⟨World.ownsRow_nil _ _ _ _,?_,?_,?_,by simp,by simp,by simp,?_,by simp⟩,?_⟩
 .have:=heap_alloc_new (((w.alloc (.cells #[v] 66)).alloc (.cells #[.slice none 0 0,.slice none 0 0,.map none] 77)).alloc (.map #[] 0)) (.cells #[v,.slice none 0 0,.map (some (w.heap.size+1+1))] 77);show _=_;simpa using this
 .have:=heap_alloc_new (w.alloc (.cells #[v] 66)) (.cells #[.slice none 0 0,.slice none 0 0,.map none] 77);show _=_;rw[Below.heap_alloc _ _ _ (by simp),Below.heap_alloc _ _ _ (by simp)];simpa using this
 .have:=heap_alloc_new ((w.alloc (.cells #[v] 66)).alloc (.cells #[.slice none 0 0,.slice none 0 0,.map none] 77)) (.map #[] 0);refine⟨#[],0,?_,by simp,by simp,by simp,by simp⟩;rw[Below.heap_alloc _ _ _ (by simp)];simpa using this
 .exact(((As.alloc nl _).alloc Aa _).alloc Al _).alloc Al _
 .exact(((bU.new w v _).alloc _).alloc _).alloc _
theorem ajV{w:WD}{base:Nat}{u:Av}{bs:List Nat}(h:w.ownsRow base 127 1 u bs.length (bs.map mpV))(h0:1<=bs.length):∃rb wc,u=.slice (some ⟨rb,0,none⟩) bs.length wc/\bs.length<=wc/\(∀i (h:i<bs.length),w.cell? ⟨rb,0+i,none⟩=some (.map (some bs[i]))):=by
 have hc:=fun g=>h.cells (g:=g);rcases h.2 with⟨rfl,hn⟩|⟨g,cap,cur,rfl,hbg,hg,hnc,hrest⟩
 .omega
 .refine⟨g,cap,rfl,hnc,fun i hi=>?_⟩;have:=hc g rfl i (mpV bs[i]) (by rw[List.getElem?_map,List.getElem?_eq_getElem hi];rfl);rw[Addr.add_lit]at this;exact this
def aqb(p:aI)(i:Nat)(g:BY->Option jS)(rs:List Rule):BY->Option jS:=rs.foldl (fun g r=>aqa p r i g) g
def aqc(p:aI)(i:Nat)(g:BY->Option jS)(ss:List (List Rule)):BY->Option jS:=ss.foldl (aqb p i) g
section
attribute [local go_sem] bI bJ aX aY
end
def wdL(l:List Nd)(x:BY):Bool:=match l with|[n]=>ru (.mk n.t []) x|_=>false
theorem ajW{l:List Nd}{x:BY}(h:¬l.length=1):wdL l x=false:=by
 match l with
 |[]=>rfl
 |[n]=>exact absurd rfl h
 |_::_::_=>rfl
theorem JX(B:Nat)(l:List Nd)(v:Av)(x:BY)(w:WD)(h:Sl (fun b=>b<B) w v l):
  Calls prog 96 #[v,.string x] w fun e w'=>e=.returned (.bool (wdL l x))/\Below w.heap.size w w':=by
 have FU:=h.len;have HS:=hid h;obtain⟨a,cap,rfl⟩:=h.form;clear h;by_cases h1:l.length=1
 .obtain⟨n,rfl⟩:∃n,l=[n]:=List.length_eq_one_iff.1 h1;obtain⟨g,o,nv,cap',e',hN,hcap⟩:=HS.o.head;have e1:a=some ⟨g,o,none⟩:=by cases e';rfl
  have ec:cap=cap':=by cases e';rfl
  subst e1 ec;obtain⟨c0,c1,c2,c3⟩:_/\_/\_/\_:=⟨hN.c0,hN.c1,hN.c2,hN.c3⟩;have hw:=hN.ok.word;obtain⟨ka,kc,rfl⟩:=hN.k.form;have hcp:1<=cap:=by simpa using hcap
  clear hN e' h1;show Calls prog 96 #[.slice (some ⟨g,o,none⟩) 1 cap,.string x] w fun e w'=>e=.returned (.bool (ru (.mk n.t []) x))/\Below w.heap.size w w';have HC:=hid (Q8 n.t (.slice ka n.kids.length kc) x w hw);go_in;go_wp2_with fail;refine HC.o.mono ?_;rintro ex w2 ⟨rfl,hb2⟩;have B2:=hid hb2;clear hb2;go_wp2_with fail;go_ret;exact⟨rfl,B2.o⟩
 .rw[ajW h1];have e1:((l.length:Int)==1)=false:=by
   rw[beq_eq_false_iff_ne];omega
  have e2:¬(l.length:Int)=1:=oo;clear h1;go_in;go_wp2_with fail;go_ret;exact⟨rfl,As⟩
def hdB(x:BY):Bool:=decide (x=⟨#[99,111,108,111,114]⟩)||decide (x=⟨#[102,111,110,116,45,115,105,122,101]⟩)||decide (x=⟨#[113,117,111,116,101,115]⟩)||custom x
theorem JY(x:BY)(w:WD):Calls prog 162 #[.string x] w fun e w'=>e=.returned (.bool (hdB x))/\w'=w:=by
 unfold hdB;have l1:=ay x [99,111,108,111,114];have l2:=ay x [102,111,110,116,45,115,105,122,101];have l3:=ay x [113,117,111,116,101,115];have l1':(x.toList==[99,111,108,111,114])=decide (x=⟨#[99,111,108,111,114]⟩):=l1;have l2':(x.toList==[102,111,110,116,45,115,105,122,101])=decide (x=⟨#[102,111,110,116,45,115,105,122,101]⟩):=l2;have l3':(x.toList==[113,117,111,116,101,115])=decide (x=⟨#[113,117,111,116,101,115]⟩):=l3;clear l1 l2 l3;rw[<-l1',<-l2',<-l3'];clear l1' l2' l3';have HC:=hid (rE x w);cases e1:(x.toList==[99,111,108,111,114])
 .cases e2:(x.toList==[102,111,110,116,45,115,105,122,101])
  .cases e3:(x.toList==[113,117,111,116,101,115])
   .go_in;go_wp2_with fail;refine HC.o.mono ?_;rintro ex wq ⟨rfl,hwq⟩;rw[hwq];clear hwq;go_wp2_with fail;go_ret;exact⟨rfl,rfl⟩
   .go_in;go_wp2_with fail;go_ret;exact⟨rfl,rfl⟩
  .go_in;go_wp2_with fail;go_ret;exact⟨rfl,rfl⟩
 .go_in;go_wp2_with fail;go_ret;exact⟨rfl,rfl⟩
theorem TS(B:Nat)(p:aI)(a:Option Addr)(cap e:Nat)(w:WD)(h:jZ B w p a cap)(he:e<p.length):
  Calls prog 100 #[.agg #[.slice a p.length cap],.int .i64 (e:Int)] w fun ex w'=>ex=.returned (.int .i64 (parentOf p e))/\Below w.heap.size w w':=by
 have B0:Hid (Below w.heap.size w (w.alloc (.cells #[.slice a p.length cap] 66))):=As.alloc nl _;have V0:Hid (bU (w.alloc (.cells #[.slice a p.length cap] 66)) w.heap.size (.slice a p.length cap) 66):=bU.new _ _ _;have c0:=V0.o.c;obtain⟨g,o,rfl,hgB,hcap,hcs⟩:=(h.alloc (.cells #[.slice a p.length cap] 66)).at;have c1:=hcs e he;have h1:(e:Int)<(p.length:Int):=oo;have hlen:=h.len;clear hcs h;go_in;go_wp2_with fail;go_ret;exact⟨rfl,B0.o⟩
open Go.ChangeMaps (setBlock)
open Go.Maps (Keyed)
theorem Zf:Keyed prog 133:=Keyed.of_law (deep_law (m:=2) oo An An An)
theorem aiw(e:Nat)(s:BY)(he:e<64)(hs:s.size<=4000000):∃l,keyOf prog 133 (.agg #[.int .i64 (e:Int),.string s])=some l:=by
 have hwf:(Lit.int .i64 (e:Int)).wf=true:=by
  have h1:IntKind.i64.min<=(e:Int):=by
   have:IntKind.i64.min<=0:=by decide
   omega
  have h2:(e:Int)<=IntKind.i64.max:=by
   have:(64:Int)<=IntKind.i64.max:=by decide
   omega
  show(decide (IntKind.i64.min<=(e:Int))&&decide ((e:Int)<=IntKind.i64.max))=true;rw[decide_eq_true h1,decide_eq_true h2];rfl
 have hsz:s.size<=maxLen:=by unfold maxLen;omega
 have hk:prog.keyType 133=true:=by kernel_rfl
 have hc:prog.cellsOf 133=2:=by kernel_rfl
 have hci:prog.cellsOf 3=1:=by kernel_rfl
 have hcs:prog.cellsOf 9=1:=by kernel_rfl
 have ht:prog.types.size=(prog.types.size-1)+1:=by kernel_rfl
 unfold keyOf;simp only[Tryz.underlying133];rw[if_pos (by simp[hk,Value.formed,Tryz.underlying133,hc]),ht];unfold Program.keyLits;simp only[Tryz.underlying133,Value.cells];rw[if_pos (by rw[hc];exact⟨rfl,by kernel_rfl⟩)];generalize prog.types.size-1=d;have k1:prog.keyLits (d+1) 3 [.int .i64 (e:Int)]=some [.int .i64 (e:Int)]:=by unfold Program.keyLits;simp only[Tryz.underlying3];exact if_pos ⟨trivial,hwf⟩
 have k2:prog.keyLits (d+1) 9 [.string s]=some [.string s.data.toList]:=by unfold Program.keyLits;simp only[Tryz.underlying9];exact if_pos hsz
 simp only[List.mapM_cons,List.mapM_nil,hci,hcs,List.drop_zero,List.drop_succ_cons,List.take_succ_cons,List.take_zero,k1,k2];exact⟨_,rfl⟩
def qV(e:Nat)(s:BY):Av:=.agg #[.int .i64 (e:Int),.string s]
def aV(t:BY):Av:=.agg #[.string t]
theorem ajX{e e':Nat}{s s':BY}(h:qV e s=qV e' s'):e=e'/\s=s':=by unfold qV at h;simp at h;exact⟨oo,h.2⟩
theorem aei(w:WD):(zeroValue 135).run prog w=.ok (.agg #[.string ⟨#[]⟩]) w:=by kernel_rfl
section
def lN:BY:=⟨#[117,110,115,101,116]⟩
def jU:BY:=⟨#[105,110,104,101,114,105,116]⟩
def nInitial:BY:=⟨#[105,110,105,116,105,97,108]⟩
section
variable {B:Nat} {w w':WD} {p:aI} {a:Option Addr} {cap:Nat} {wa:Option Addr} {wc:Nat} {bs:List Nat} {kb:Nat} {F:Nat->BY->Option jS}
end
end
open Go.ChangeMaps (setBlock)
open Go.ChangeMaps (setBlock)
def Qb(w:WD)(b:Nat)(x0 x1:Av):Prop:=w.heap[b]?=some (.cells #[x0,x1] 133 (0,0))
theorem Qb.cs{w:WD}{b:Nat}{x0 x1:Av}(h:Qb w b x0 x1):w.cell? ⟨b,0,none⟩=some x0/\w.cell? ⟨b,1,none⟩=some x1:=by have h':w.heap[b]?=_:=h;refine⟨?_,?_⟩<;>(unfold World.cell?;rw[h'];rfl)
theorem Qb.lt{w:WD}{b:Nat}{x0 x1:Av}(h:Qb w b x0 x1):b<w.heap.size:=(Ax h)
theorem Qb.new(w:WD)(x0 x1:Av):Qb (w.alloc (.cells #[x0,x1] 133)) w.heap.size x0 x1:=heap_alloc_new w _
theorem Qb.below{w w':WD}{b:Nat}{x0 x1:Av}(h:Qb w b x0 x1)(hb:Below w.heap.size w w'):Qb w' b x0 x1:=by show _=_;rw[hb.block _ h.lt];exact h
theorem aej{mb:Nat}{w w2:WD}{o:Obj}(h:Turn mb w w2):Turn mb w (setBlock w2 mb o):=
 ⟨h.os,h.tape,h.output,by show _<=(w2.heap.setIfInBounds mb o).size;simpa using h.size,fun g hg hne=>by show(w2.heap.setIfInBounds mb o)[g]?=_;rw[Array.getElem?_setIfInBounds_ne (fun e=>hne e.symm)];exact h.block g hg hne⟩
section
attribute [local go_sem] bI bJ aX aY
theorem TT(L B:Nat)(l:List Nd)(v:Av)(w:WD)(h:Sl (Rg L B) w v l)(hB:B<=w.heap.size)(hLw:L<=w.heap.size):
  Calls prog 69 #[v] w fun e w'=>∃u,e=.returned u/\SG dB 4 (oD L w') w' u (rules true l)/\Below w.heap.size w w':=by
 obtain⟨a,cap,rfl⟩:=h.form;have B1:Hid (Below w.heap.size w (w.alloc (.cells #[.int .i64 1,.int .i64 8,.int .i64 9] 3))):=As.alloc nl _;have S1:=hid (h.vO B1.o hB);have IE:Hid (∀j,j<3->(w.alloc (.cells #[.int .i64 1,.int .i64 8,.int .i64 9] 3)).cell? ⟨w.heap.size,0+j,none⟩=some (.int .i64 (([1,8,9]:List Int).getD j 0))):=by intro j hj;have hh:(w.alloc (.cells #[.int .i64 1,.int .i64 8,.int .i64 9] 3)).heap[w.heap.size]?=_:=heap_alloc_new w _;unfold World.cell?;rw[hh];rcases(show j=0\/j=1\/j=2 by omega)with rfl|rfl|rfl<;>rfl
 clear h;go_in;go_wp2_with fail;have hlt1:w.heap.size<(w.alloc (.cells #[.int .i64 1,.int .i64 8,.int .i64 9] 3)).heap.size:=by simp
 generalize w.alloc (.cells #[.int .i64 1,.int .i64 8,.int .i64 9] 3)=w1 at *;refine(Nb L B true l _ [1,8,9] _ w1 S1.o oo Aa hlt1 IE.o IG oo).mono ?_;rintro e w2 ⟨u,rfl,hsg,hb2⟩;obtain⟨ua,uc,rfl⟩:=hsg.form;have B2:=hid (B1.o.trans (hb2.mono oo));have Rn:=hid hsg;clear hsg hb2;go_wp2_with fail;go_ret;exact⟨_,rfl,Rn.o,B2.o⟩
end
