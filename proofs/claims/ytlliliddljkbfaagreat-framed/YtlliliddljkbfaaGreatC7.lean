import Derived.Test.YtlliliddljkbfaaGreatC6
set_option maxHeartbeats 64000000
set_option maxRecDepth 100000
namespace Go.Proofs.YtlliliddljkbfaaGreat
open Go.Proofs.Tryz (prog)
open Go.RowKit Sp
structure uz(z:Nat)(t:Tok):Prop where
 word:t.word.size<=z
 unit:t.unit.size<=z
 kind:Qj t=true
theorem uz.k(z:Nat){n:Int}(h:1<=n/\n<=15):uz z (Tok.k n):=⟨by simp[Tok.k],by simp[Tok.k],by simp[Qj,Tok.k,h.1,h.2]⟩
theorem uz.w{z:Nat}{n:Int}{x:BY}(h:1<=n/\n<=15)(hx:x.size<=z):uz z (Tok.w n x):=⟨hx,by simp[Tok.w],by simp[Qj,Tok.w,h.1,h.2]⟩
theorem Jo{t:Tok}{n:Int}(h:t.kind=n)(h1:1<=n/\n<=15):Qj t=true:=by unfold Qj;rw[h];simp[h1.1,h1.2]
theorem aaF{s:BY}{i:Nat}(hi:i<s.size)(h:iO s i=true):uz s.size (numeric s i).1:=by
 have h1:=yY h;have h2:=yX (s:=s) (i:=i) oo;have hz:(s.extract i (bT s i)).size=bT s i-i:=by simp;omega
 unfold numeric;simp only;by_cases h37:pk s (bT s i)=37
 .rw[if_pos h37];exact uz.w oo (by rw[hz];omega)
 rw[if_neg h37];by_cases hb:iG s (bT s i)=true
 .rw[if_pos hb];have hn:=sO s (bT s i);exact⟨by rw[hz];omega,hn,Jo (n:=7) rfl oo⟩
 .rw[if_neg hb];exact uz.w oo (by rw[hz];omega)
theorem agw{s:BY}{i:Nat}:uz s.size (named s i).1:=by
 have hn:=sO s i;unfold named;simp only;split
 .split
  .have h1:=vI s s.size (blk s ((name s i).2+1)) ByteArray.empty;have h2:=mQ s s.size (blk s ((name s i).2+1)) ByteArray.empty;simp at h1;unfold link;refine⟨oo,by rw[h2.2];simp,?_⟩;rcases h2.1 with e|e
   .exact Jo e oo
   .exact Jo e oo
  .exact uz.w oo hn
 .exact uz.w oo hn
theorem agx{s:BY}{i:Nat}(hi:i<s.size):uz s.size (token s i).1:=by
 unfold token;split
 .exact uz.k _ oo
 split
 .have h1:=qK s (pk s i) s.size (i+1) ByteArray.empty;have h2:=lu s (pk s i) s.size (i+1) ByteArray.empty;simp at h1;unfold txt;refine⟨oo,by rw[h2.2];simp,?_⟩;rcases h2.1 with e|e
  .exact Jo e oo
  .exact Jo e oo
 split
 .exact uz.w oo (sO s _)
 split
 .exact aaF hi ‹_›
 split
 .exact uz.k _ oo
 split
 .exact uz.k _ oo
 split
 .exact uz.w oo (sO s _)
 split
 .exact agw
 .have:=iQ hi;exact uz.w oo oo
theorem ac8{s:BY}:∀f i,i<=s.size->∀t∈tokF s f i,uz s.size t
 |0,_,_,t,h=>by simp[tokF]at h
 |f+1,i,hi,t,h=>by
  unfold tokF at h;by_cases h0:s.size<=i
  .rw[if_pos h0]at h;simp at h
  .rw[if_neg h0]at h;rcases List.mem_cons.1 h with e|e
   .rw[e];exact agx oo
   .exact ac8 f _ (Af (xB oo)) t e
theorem ac9(s:BY):∀f i,(tokF s f i).length<=f
 |0,_=>by simp[tokF]
 |f+1,i=>by
  unfold tokF;split
  .simp
  .have:=ac9 s f (com s (token s i).2);simp only[List.length_cons];omega
theorem ada(s:BY):∀t∈toks s,uz s.size t:=ac8 _ _ (Af (Nat.zero_le _))
theorem WM(s:BY):(toks s).length<=s.size:=ac9 _ _ _
mutual
def gN:Nd->Prop
 |.mk t k=>dI t/\Qj t=true/\(closing t=aA->k=[])/\gL k
def gL:List Nd->Prop
 |[]=>True
 |n::r=>gN n/\gL r
end
theorem Ba(n:Nd):gN n↔dI n.t/\Qj n.t=true/\(closing n.t=aA->n.kids=[])/\gL n.kids:=by cases n;simp[gN]
theorem yh:∀(l:List Nd),gL l↔∀n∈l,gN n
 |[]=>by simp[gL]
 |m::r=>by simp[gL,yh r]
theorem qw{a b:List Nd}(h:gL b)(hs:∀n∈a,n∈b):gL a:=(yh a).2 fun n hn=>(yh b).1 h n (hs n hn)
mutual
theorem alu:∀(n:Nd),gN n->okN n
 |.mk t k,h=>by simp only[gN]at h;simp only[okN];exact⟨h.1,Sm k h.2.2.2⟩
theorem Sm:∀(l:List Nd),gL l->gu l
 |[],_=>by simp[gu]
 |n::r,h=>by simp only[gL]at h;exact⟨alu n h.1,Sm r h.2⟩
end
mutual
theorem alv:∀(n:Nd),gN n->Qz (fun t=>!Qj t) n=false
 |.mk t k,h=>by simp only[gN]at h;unfold Qz;rw[WO k h.2.2.2,h.2.1];rfl
theorem WO:∀(l:List Nd),gL l->jg (fun t=>!Qj t) l=false
 |[],_=>by unfold jg;rfl
 |n::r,h=>by simp only[gL]at h;unfold jg;rw[alv n h.1,WO r h.2];rfl
end
theorem aio{l:List Nd}(h:gL l):OJ l:=WO l h
theorem ajt(n:Nat):∀(e:BY) (ts:List Tok),ts.length<=n->(∀t∈ts,dI t/\Qj t=true)->gL (kids e ts).1:=by
 induction n with
 |zero=>intro e ts h _;obtain rfl:ts=[]:=List.eq_nil_of_length_eq_zero oo;simp[jB,gL]
 |succ n ih=>
  intro e ts h hok;cases ts with
  |nil=>simp[jB,gL]
  |cons t r=>
   simp only[List.length_cons]at h;by_cases hc:e≠aA/\au t e=true
   .simp[qX hc,gL]
   .rw[iy hc];have hr:∀t∈r,dI t/\Qj t=true:=fun x hx=>hok x (by simp[hx]);have hl:=qW t r;obtain⟨k,hk,hk2⟩:=Fb t r;have h1:gL (inside t r).1:=by
     unfold inside;split
     .simp[gL]
     .exact ih _ r oo hr
    have h3:closing t=aA->(inside t r).1=[]:=by intro e;unfold inside;rw[if_pos e]
    have h2:gL (kids e (inside t r).2).1:=ih e _ oo fun x hx=>hr x (by rw[hk2]at hx;exact List.mem_of_mem_drop hx);have h0:=hok t Ab;simp only[gL,gN];exact⟨⟨h0.1,h0.2,h3,h1⟩,h2⟩
def twz:List Tok->Nat
 |[]=>0
 |t::r=>4*t.word.size+4*t.unit.size+16+twz r
theorem aip{z:Nat}:∀(ts:List Tok),(∀t∈ts,uz z t)->twz ts<=ts.length*(8*z+16)
 |[],_=>by simp[twz]
 |t::r,h=>by have ih:=aip r fun x hx=>h x (by simp[hx]);have h0:=h t Ab;have:=h0.word;have:=h0.unit;simp only[twz,List.length_cons,Nat.add_mul,Nat.one_mul];omega
theorem agy(n:Nat):∀(e:BY) (ts:List Tok),ts.length<=n->dL (kids e ts).1+twz (kids e ts).2<=twz ts:=by
 induction n with
 |zero=>intro e ts h;obtain rfl:ts=[]:=List.eq_nil_of_length_eq_zero oo;simp[jB,dL,twz]
 |succ n ih=>
  intro e ts h;cases ts with
  |nil=>simp[jB,dL,twz]
  |cons t r=>
   simp only[List.length_cons]at h;by_cases hc:e≠aA/\au t e=true
   .rw[qX hc];simp only[dL,twz];omega
   .rw[iy hc];have hl:=qW t r;have h1:dL (inside t r).1+twz (inside t r).2<=twz r:=by
     unfold inside;split
     .simp[dL]
     .exact ih _ r oo
    have h2:=ih e (inside t r).2 oo;simp only[dL,Cc,twz];omega
theorem Di{s:BY}(hs:s.size<=600):gL (bH s)/\dL (bH s)<=4000000:=by have hc:=oZ s;have h1:∀t∈toks (clean s),dI t/\Qj t=true:=fun t ht=>⟨Oz oo t ht,(ada _ t ht).kind⟩;refine⟨ajt _ _ _ nl h1,?_⟩;have h2:=agy _ aA (toks (clean s)) nl;have h3:=aip (z:=600) (toks (clean s)) (fun t ht=>by have:=ada _ t ht;exact⟨by have:=this.word;omega,by have:=this.unit;omega,this.kind⟩);have h4:=WM (clean s);have h5:(toks (clean s)).length*(8*600+16)<=600*4816:=Nat.mul_le_mul oo oo;unfold bH nodes;omega
theorem gY(n:Nd):Cc n=4*n.t.word.size+4*n.t.unit.size+16+dL n.kids:=by obtain⟨t,k⟩:=n;unfold Cc;rfl
theorem bW(n:Nd)(r:List Nd):dL (n::r)=Cc n+dL r:=by conv=>lhs;unfold dL
theorem lG:dL []=0:=by unfold dL;rfl
theorem vY:∀(a b:List Nd),dL (a++b)=dL a+dL b
 |[],b=>by simp[dL]
 |n::r,b=>by rw[List.cons_append,bW,bW,vY r b];omega
theorem OL:∀(a:List Nd),dL a.reverse=dL a
 |[]=>rfl
 |n::r=>by rw[List.reverse_cons,vY,OL r,bW,bW,lG];omega
theorem uD:∀(l:List Nd),dL (aH l)<=dL l
 |[]=>by unfold aH;exact Nat.le_refl _
 |n::r=>by
  unfold aH;split
  .have:=uD r;rw[bW];omega
  .exact Nat.le_refl _
theorem kU(l:List Nd):dL (bare l)<=dL l:=by unfold bare lJ;rw[OL];have h1:=uD (aH l).reverse;have h2:=uD l;rw[OL]at h1;omega
theorem ku:∀(l:List Nd) (n:Nd),n∈aH l->n∈l
 |[],n,h=>h
 |m::r,n,h=>by
  unfold aH at h;split at h
  .exact List.mem_cons_of_mem _ (ku r n h)
  .exact h
theorem nP(l:List Nd)(n:Nd)(h:n∈bare l):n∈l:=by unfold bare lJ at h;rw[List.mem_reverse]at h;exact ku _ _ (List.mem_reverse.1 (ku _ _ h))
theorem Jp(st:Nd->Bool):∀(l:List Nd),dL (bG st l).1+(match (bG st l).2.1 with|none=>0|some b=>Cc b)+dL (bG st l).2.2<=dL l
 |[]=>by simp[bG,dL]
 |n::r=>by
  unfold bG;split
  .simp only[lG,bW];omega
  .have:=Jp st r;simp only[bW];omega
theorem yj(st:Nd->Bool):∀(l:List Nd) (m:Nd),m∈(bG st l).1->m∈l
 |[],m,h=>by simp[bG]at h
 |n::r,m,h=>by
  unfold bG at h;split at h
  .simp at h
  .rcases List.mem_cons.1 h with e|e
   .simp[e]
   .exact List.mem_cons_of_mem _ (yj st r m e)
theorem Jq(st:Nd->Bool):∀(l:List Nd) (b:Nd),(bG st l).2.1=some b->b∈l
 |[],b,h=>by simp[bG]at h
 |n::r,b,h=>by
  unfold bG at h;split at h
  .simp at h;simp[h]
  .exact List.mem_cons_of_mem _ (Jq st r b h)
theorem nR(st:Nd->Bool):∀(l:List Nd) (m:Nd),m∈(bG st l).2.2->m∈l
 |[],m,h=>by simp[bG]at h
 |n::r,m,h=>by
  unfold bG at h;split at h
  .exact List.mem_cons_of_mem _ h
  .exact List.mem_cons_of_mem _ (nR st r m h)
theorem Nq(w:BY):(jM w).size=w.size:=by
 unfold jM;split
 .rfl
 .exact jE w
theorem Dj(l:List Nd):dL l.dropLast<=dL l:=by
 rcases Yr l with rfl|⟨i,x,rfl⟩
 .exact Nat.le_refl _
 .rw[List.dropLast_concat,vY];omega
theorem aaG(v:List Nd):dL (gW v).1<=dL v:=by
 unfold gW;split
 .exact Nat.le_refl _
 .split
  .split
   .exact Nat.le_refl _
   .split
    .have h1:=kU (bare v.dropLast).dropLast;have h2:=Dj (bare v.dropLast);have h3:=kU v.dropLast;have h4:=Dj v;show dL (bare (bare v.dropLast).dropLast)<=_;omega
    .exact Nat.le_refl _
  .exact Nat.le_refl _
theorem WQ(v:List Nd)(n:Nd)(h:n∈(gW v).1):n∈v:=by
 unfold gW at h;split at h
 .exact h
 .split at h
  .split at h
   .exact h
   .split at h
    .exact List.dropLast_subset _ (nP _ _ (List.dropLast_subset _ (nP _ _ h)))
    .exact h
  .exact h
theorem adb{l:List Nd}{d:Dec}(h:iI l=some d):dz d<=dL l/\∀n∈d.val,n∈l:=by
 unfold iI at h;split at h
 .cases h
 .rename_i n r;split at h
  .cases h
  .split at h
   .cases h
   .rename_i c q hq;split at h
    .cases h;have h1:=aaG (bare q);have h2:=kU q;have h3:=kU r;rw[hq,bW,gY c]at h3;refine⟨?_,fun m hm=>?_⟩
     .unfold dz;simp only[Nq];rw[bW,gY n];omega
     .have:=nP _ _ (WQ _ _ hm);exact List.mem_cons_of_mem _ (nP r m (by rw[hq];exact List.mem_cons_of_mem _ this))
    .cases h
theorem Dk:∀(f:Nat) (l:List Nd),Qk (fF f l)<=dL l/\∀d∈fF f l,∀n∈d.val,n∈l
 |0,l=>by simp[fF,Qk]
 |f+1,[]=>by simp[fF,Qk]
 |f+1,n::r=>by
  unfold fF;split
  .have ih:=Dk f r;rw[bW];exact⟨oo,fun d hd m hm=>List.mem_cons_of_mem _ (ih.2 d hd m hm)⟩
  split
  .have ih:=Dk f (bG (fun m=>aS m||aK m) r).2.2;have h1:=Jp (fun m=>aS m||aK m) r;rw[bW];exact⟨oo,fun d hd m hm=>List.mem_cons_of_mem _ (nR _ _ _ (ih.2 d hd m hm))⟩
  .have ih:=Dk f (bG aS (n::r)).2.2;have h1:=Jp aS (n::r);have h2:∀d∈fF f (bG aS (n::r)).2.2,∀m∈d.val,m∈n::r:=fun d hd m hm=>nR _ _ _ (ih.2 d hd m hm);simp only;split
   .exact⟨oo,h2⟩
   .rename_i d0 hd0;have h3:=adb hd0;refine⟨by simp only[Qk];omega,fun d hd m hm=>?_⟩;rcases List.mem_cons.1 hd with e|e
    .subst e;exact yj _ _ _ (h3.2 m hm)
    .exact h2 d e m hm
theorem Dl(l:List Nd):Qk (decls l)<=dL l/\∀d∈decls l,∀n∈d.val,n∈l:=Dk _ l
def rwz(r:Rule):Nat:=4*(r.at_.getD aA).size+16+dL r.head+dL (r.body.getD [])
def Dp:List Rule->Nat
 |[]=>0
 |r::q=>rwz r+Dp q
theorem YP:∀(l:List Rule) (r:Rule),r∈l->rwz r<=Dp l
 |m::r,n,h=>by
  unfold Dp;rcases List.mem_cons.1 h with e|e
  .subst e;omega
  .have:=YP r n e;omega
structure aaH(l:List Nd)(r:Rule):Prop where
 head:∀n∈r.head,n∈l
 body:∀b,r.body=some b->∃n∈l,aK n=true/\b=n.kids
 sty:r.at_=none->r.body.isSome=true
theorem aaH.wide{l l':List Nd}{r:Rule}(h:aaH l r)(hs:∀n∈l,n∈l'):aaH l' r:=⟨fun n hn=>hs n (h.head n hn),fun b hb=>by obtain⟨n,h1,h2⟩:=h.body b hb;exact⟨n,hs n h1,h2⟩,h.sty⟩
theorem Dq(sh:Bool):∀(f:Nat) (l:List Nd),Dp (fM f sh l)<=dL l/\∀r∈fM f sh l,aaH l r
 |0,l=>by simp[fM,Dp]
 |f+1,[]=>by simp[fM,Dp]
 |f+1,n::r=>by
  unfold fM;split
  .have ih:=Dq sh f r;rw[bW];exact⟨oo,fun d hd=>(ih.2 d hd).wide fun m hm=>List.mem_cons_of_mem _ hm⟩
  split
  .have ih:=Dq sh f (bG (fun m=>aS m||aK m) r).2.2;have h1:=Jp (fun m=>aS m||aK m) r;have h2:=Jq (fun m=>aS m||aK m) r;have hb:dL ((gV (bG (fun m=>aS m||aK m) r).2.1).getD [])<=(match (bG (fun m=>aS m||aK m) r).2.1 with|none=>0|some b=>Cc b):=by
    cases(bG (fun m=>aS m||aK m) r).2.1 with
    |none=>simp[gV,dL]
    |some b=>
     show dL ((if aK b=true then some b.kids else none).getD [])<=Cc b;by_cases hq:aK b=true
     .rw[if_pos hq,gY];show dL b.kids<=_;omega
     .rw[if_neg hq];show dL []<=_;rw[lG];exact Nat.zero_le _
   simp only;refine⟨?_,fun d hd=>?_⟩
   .unfold Dp rwz;simp only[Option.getD_some];rw[bW,gY n];omega
   .rcases List.mem_cons.1 hd with e|e
    .subst e;refine⟨fun m hm=>List.mem_cons_of_mem _ (yj _ _ _ hm),fun b hbb=>?_,fun h=>by cases h⟩;simp only at hbb;cases hc:(bG (fun m=>aS m||aK m) r).2.1 with
     |none=>rw[hc]at hbb;simp[gV]at hbb
     |some q=>
      rw[hc]at hbb;have agz:(if aK q=true then some q.kids else none)=some b:=hbb;by_cases hq:aK q=true
      .rw[if_pos hq]at agz;cases agz;exact⟨q,List.mem_cons_of_mem _ (h2 q hc),hq,rfl⟩
      .rw[if_neg hq]at agz;cases agz
    .exact(ih.2 d e).wide fun m hm=>List.mem_cons_of_mem _ (nR _ _ _ hm)
  .have h1:=Jp aK (n::r);have h2:=Jq aK (n::r);have h3:=vP aK (n::r);simp only;split
   .simp[Dp]
   .rename_i b hc;have ih:=Dq sh f (bG aK (n::r)).2.2;rw[hc]at h1;simp only at h1;refine⟨?_,fun d hd=>?_⟩
    .unfold Dp rwz;simp only[Option.getD_some,Option.getD_none];have e:aA.size=0:=rfl;rw[gY]at h1;rw[e];omega
    .rcases List.mem_cons.1 hd with e|e
     .subst e;refine⟨fun m hm=>yj _ _ _ hm,fun q hq=>?_,fun _=>rfl⟩;cases hq;exact⟨b,h2 b hc,h3 b hc,rfl⟩
     .exact(ih.2 d e).wide fun m hm=>nR _ _ _ hm
theorem pO(sh:Bool)(l:List Nd):Dp (rules sh l)<=dL l/\∀r∈rules sh l,aaH l r:=Dq sh _ l
theorem aju{l b:List Nd}{r:Rule}(h:aaH l r)(hg:gL l)(hb:r.body=some b):gL b/\depth b+1<=depth l:=by
 obtain⟨n,h1,h2,rfl⟩:=h.body b hb;have h3:=(Ba n).1 ((yh l).1 hg n h1);have h4:=Ai l n h1;have h5:¬closing n.t=aA:=by unfold aK dN au at h2;simp only[Bool.and_eq_true,decide_eq_true_eq]at h2;unfold closing;rw[if_neg (by rw[h2.1];omega),if_pos h2.1,h2.2];decide
 rw[xE h5]at h4;exact⟨h3.2.2.2,h4⟩
section
theorem Nr:∀(a b:List Simple),zA (a++b)=zA a+zA b
 |[],b=>by simp[zA]
 |s::r,b=>by
  rw[List.cons_append];conv=>lhs;unfold zA
  conv=>rhs;lhs;unfold zA
  rw[Nr r b];omega
theorem WR(s:Simple):zA [s]=zS s:=by simp[zA]
theorem YQ(k:Nat)(nm how v:BY)(l:bY)(p:Nat):zS (.mk k nm how v l p)=4*nm.size+4*v.size+how.size+120+zL l:=by conv=>lhs;unfold zS
theorem WS:zL []=0:=by unfold zL;rfl
theorem Jr(k:Nat)(nm:BY):zS (Simple.of k nm)=4*nm.size+120:=by unfold Simple.of;rw[YQ,WS];have e:aA.size=0:=rfl;rw[e]
theorem Sr{l:List Nd}{s:Simple}(h:gG l=some s):zS s<=4*dL l+124:=by
 unfold gG at h;split at h
 .cases h
 .rename_i n r;rw[bW,gY n];simp only at h;split at h
  .cases h
  .split at h
   .cases h;rw[Jr];omega
   .rename_i m r1 hb;have h3:=kU r;rw[hb,bW,gY m]at h3;split at h
    .cases h
    .split at h
     .cases h
     .rename_i q r2 hq;have hq2:dL (q::r2)<=16+4*m.t.word.size+4*m.t.unit.size+dL m.kids+dL r1:=by
       rw[<-hq];split
       .omega
       .rw[bW,gY];omega
      rw[bW]at hq2;split at h
      .rename_i v hv;have h4:=kU r2;rw[hv,bW,gY v]at h4;split at h
       .cases h;rw[YQ,WS];have e:((if m.t.word=b1 126\/m.t.word=b1 94\/m.t.word=b1 36\/m.t.word=b1 42 then m.t.word else aA)++b1 61).size<=m.t.word.size+1:=by
         rw[ByteArray.size_append];have e1:(b1 61).size=1:=rfl;have e0:aA.size=0:=rfl;split
         .omega
         .omega
        omega
       .cases h
      .cases h
theorem ade{l r:List Nd}{c:Nat}(h:gU l=some (c,r)):dL r<=dL l:=by
 have hd:=uD l;unfold gU at h;split at h
 .split at h
  .cases h
  .cases h;rw[lG];exact Nat.zero_le _
 .rename_i n q hq;have hb:=uD q;rw[hq,bW]at hd;split at h
  .cases h;omega
  split at h
  .cases h;omega
  split at h
  .cases h;omega
  split at h
  .cases h;rw[bW];omega
  .cases h
theorem Js:∀(l:List Nd) (out:List (List Nd)) (cur:List Nd),((iZ out cur l).map dL).sum<=(out.map dL).sum+dL cur+dL l
 |[],out,cur=>by unfold iZ;rw[List.map_append,List.sum_append];simp only[List.map_cons,List.map_nil,List.sum_cons,List.sum_nil];omega
 |m::r,out,cur=>by
  unfold iZ;rw[bW];split
  .have:=Js r (out++[cur]) [];rw[List.map_append,List.sum_append,lG]at this;simp only[List.map_cons,List.map_nil,List.sum_cons,List.sum_nil]at this;omega
  .have:=Js r out (cur++[m]);rw[vY,bW,lG]at this;omega
section
variable {rec:List Nd->Option bY} (hrec : ∀ l ss,rec l=some ss->zL ss<=16*dL l)
include hrec
theorem aaI{n:Nd}{s:Simple}(h:bM rec n=some s):zS s+100<=16*Cc n:=by
 rw[gY];unfold bM at h;simp only at h;split at h
 .split at h
  .cases h;rw[Jr,jE];omega
  .cases h
 split at h
 .cases h
 have e:aA.size=0:=rfl;split at h
 .cases hr:rec n.kids with
  |none=>rw[hr]at h;cases h
  |some ss=>rw[hr]at h;simp at h;subst h;have:=hrec _ _ hr;rw[YQ,jE,e];omega
 split at h
 .split at h
  .rename_i v hv;cases hp:placeOf v.t with
   |none=>rw[hp]at h;cases h
   |some q=>rw[hp]at h;simp at h;subst h;rw[YQ,jE,e,WS];omega
  .cases h
 .cases h
theorem adf(n:Nat):∀(acc:List Simple) (l:List Nd) (all:List Simple) (r:List Nd),l.length<=n->bZ rec acc l=some (all,r)->zA all+100*all.length+16*dL r<=zA acc+100*acc.length+16*dL l:=by
 induction n with
 |zero=>intro acc l all r hl h;obtain rfl:l=[]:=List.eq_nil_of_length_eq_zero oo;simp[bZ]at h;obtain⟨rfl,rfl⟩:=h;exact Nat.le_refl _
 |succ n ih=>
  intro acc l all r hl h;have one:∀s,zA (acc++[s])+100*(acc++[s]).length=zA acc+100*acc.length+(zS s+100):=fun s=>by rw[Nr,WR,List.length_append];show _+100*(_+1)=_;omega
  match l,hl,h with
  |[],_,h=>simp[bZ]at h;obtain⟨rfl,rfl⟩:=h;exact Nat.le_refl _
  |[m],_,h=>
   rw[bW,gY m,lG];unfold bZ at h;split at h
   .cases h;rw[one,Jr,lG];omega
   split at h
   .cases h
   split at h
   .split at h
    .cases h
    .rename_i s hs;cases h;have h1:=Sr hs;have h2:=kU m.kids;rw[one,lG];omega
   split at h
   .cases h
   .cases h;rw[bW,gY m,lG];omega
  |m::q::r',hl,h=>
   simp only[List.length_cons]at hl;rw[bW,gY m];unfold bZ at h;split at h
   .have:=ih _ _ _ _ An h;rw[one,Jr]at this;omega
   split at h
   .split at h
    .have:=ih _ _ _ _ oo h;rw[one,Jr]at this;rw[bW,gY q];omega
    .cases h
   split at h
   .split at h
    .cases h
    .rename_i s hs;have:=ih _ _ _ _ An h;have h1:=Sr hs;have h2:=kU m.kids;rw[one]at this;omega
   split at h
   .split at h
    .cases h
    .rename_i s hs;have:=ih _ _ _ _ oo h;have h1:=aaI hrec hs;rw[one]at this;rw[bW q];omega
   .cases h;rw[bW m,gY m];omega
theorem Sv{l:List Nd}{all:List Simple}{r:List Nd}(h:aZ rec l=some (all,r)):zA all+100*all.length+16*dL r<=16*dL l:=by
 unfold aZ at h;have h1:=adf hrec _ _ _ _ _ nl h;have ht:zA (kP l).1+100*(kP l).1.length+16*dL (kP l).2<=16*dL l:=by
  unfold kP;split
  .simp[zA]
  .rw[bW,gY];split
   .simp only[WR,Jr,jE];show _+100*1+_<=_;omega
   split
   .have e:aA.size=0:=rfl;simp only[WR,Jr,e];show _+100*1+_<=_;omega
   .simp only[bW,gY];show zA []+100*0+_<=_;have e:zA []=0:=by unfold zA;rfl
    omega
 omega
theorem Jt:∀(f b:Nat) (l:List Nd) (ss:List Step),bD rec f b l=some ss->zC ss+90<=16*dL l
 |0,_,_,_,h=>by simp[bD]at h
 |f+1,b,l,ss,h=>by
  unfold bD at h;split at h
  .cases h
  .rename_i all r hc;have h1:=Sv hrec hc;split at h
   .cases h
   .rename_i hne;have hl:1<=all.length:=by cases all with|nil=>exact absurd rfl hne|cons _ _=>simp
    split at h
    .cases h;simp only[zC,zT];omega
    .split at h
     .cases h
     .rename_i c r' hcb;have hw:=ade hcb;cases hx:bD rec f c r' with
      |none=>rw[hx]at h;cases h
      |some x=>
       rw[hx]at h;simp at h;subst h;have ih:=Jt f c r' x hx;conv=>lhs;unfold zC
       simp only[zT];omega
theorem YR:∀(ps:List (List Nd)) (ss:bY),fZ rec ps=some ss->zL ss<=16*(ps.map dL).sum
 |[],ss,h=>by simp[fZ]at h;subst h;simp[zL]
 |p::r,ss,h=>by
  unfold fZ at h;split at h
  .cases h
  .rename_i s hs;cases hx:fZ rec r with
   |none=>rw[hx]at h;cases h
   |some x=>
    rw[hx]at h;simp at h;subst h;have h1:=Jt hrec _ _ _ _ hs;have h2:=kU p;have h3:=YR r x hx;conv=>lhs;unfold zL
    rw[List.map_cons,List.sum_cons];omega
theorem YS{l:List Nd}{ss:bY}(h:oz rec l=some ss):zL ss<=16*dL l:=by
 unfold oz at h;split at h
 .cases h
 .have h1:=YR hrec _ _ h;have h2:=Js l [] [];rw[lG]at h2;simp only[List.map_nil,List.sum_nil]at h2;unfold parted at h1;omega
end
theorem OM:∀(f:Nat) (l:List Nd) (ss:bY),lM f l=some ss->zL ss<=16*dL l
 |0,l,ss,h=>YS (rec:=fun _=>none) (fun _ _ h=>by cases h) h
 |f+1,l,ss,h=>YS (rec:=lM f) (fun l ss h2=>OM f l ss h2) h
theorem adg:∀(ss:bY),ss.length<=zL ss
 |[]=>by simp
 |c::r=>by have:=adg r;unfold zL;simp only[List.length_cons];omega
theorem Ez(p:aF):eH p []=true:=by unfold eH jg;rfl
theorem Dt(p:aF):∀(a b:List Nd),eH p (a++b)=(eH p a&&eH p b)
 |[],b=>by rw[Ez];rfl
 |n::r,b=>by rw[List.cons_append,pz,pz,Dt p r b];cases oI p n.t<;>cases eH p n.kids<;>cases eH p r<;>rfl
theorem EC(p:aF):∀(a:List Nd),eH p a.reverse=eH p a
 |[]=>rfl
 |n::r=>by rw[List.reverse_cons,Dt,EC p r,pz,pz,Ez];cases oI p n.t<;>cases eH p n.kids<;>cases eH p r<;>rfl
theorem yt(p:aF):∀(l:List Nd),gL l->eH p (aH l)=eH p l
 |[],_=>by unfold aH;rfl
 |n::r,h=>by
  simp only[gL]at h;unfold aH;split
  .rename_i hb;have hk:n.t.kind=1:=by unfold iH at hb;simpa using hb
   have hc:closing n.t=aA:=by unfold closing;rw[if_neg (by rw[hk];omega),if_neg (by rw[hk];omega)]
   have hkids:=((Ba n).1 h.1).2.2.1 hc;rw[yt p r h.2,pz,hkids,Ez];have:oI p n.t=true:=by unfold oI;simp[hk]
   rw[this];simp
  .rfl
theorem WT(p:aF){l:List Nd}(h:gL l):eH p (bare l)=eH p l:=by unfold bare lJ;have h1:gL (aH l):=qw h fun n hn=>ku l n hn;rw[EC,yt p _ (qw h1 fun n hn=>List.mem_reverse.1 hn),EC,yt p _ h]
theorem agA[bV]{p:aF}{rec:List Nd->BY}{r:Rule}(h:gL r.head)(hs:r.at_=none->r.body.isSome=true):kE p rec r=H9 p rec r:=by
 obtain⟨at_,head,body⟩:=r;unfold kE H9;cases at_ with
 |none=>
  cases body with
  |none=>have:=hs rfl;simp at this
  |some b=>
   show Jm p head b=H8 p _ b;unfold Jm H8;cases Ot head with
   |none=>rfl
   |some ss=>show yg _ _=_;unfold yg;rfl
 |some w=>
  cases body with
  |none=>show AZ p w false head _=aA;unfold AZ;rw[if_neg (by simp)]
  |some b=>
   show AZ p w true head (rec b)=_;unfold AZ yg;have h1:=WT p h;simp only at h1;rw[<-h1];by_cases hc:p.ats.contains (small w)=true/\eH p (bare head)=true
   .rw[if_pos (by rw[hc.1,hc.2];rfl)];simp only;rw[if_pos hc];split
    .rfl
    .simp[ByteArray.append_assoc]
   .rw[if_neg (by intro h;simp only[Bool.true_and,Bool.and_eq_true]at h;exact hc h)];simp only;rw[if_neg hc]
theorem WU[bV](hd:jm)(root:BY)(ss:bY)(hq:CO ss)(hr:root.size<=12):(jV (jc root) ss).size<=16*zL ss:=by
 have h1:=vW (b1 44) (ss.map (fun x=>jc root++dW x));rw[AX,List.length_map]at h1;have h2:=zf hd (jc root) ss hq;have h3:(jc root).size<=14:=by
  unfold jc;split
  .show 0<=14;omega
  .rw[ByteArray.size_append,ByteArray.size_append];show 1+(_+1)<=14;omega
 have h4:ss.length*(jc root).size<=ss.length*14:=Nat.mul_le_mul nl h3;have h5:=adg ss;have e:(b1 44).size=1:=rfl;rw[e]at h1;omega
theorem Ns(h b:BY):(yg h b).size<=h.size+b.size+2:=by
 unfold yg;have e1:(b1 123).size=1:=rfl;have e2:(b1 125).size=1:=rfl;split
 .show 0<=_;omega
 .rw[ByteArray.size_append,ByteArray.size_append,ByteArray.size_append,e1,e2];omega
theorem aaJ[bV](hd:jm){p:aF}{rec:List Nd->BY}{r:Rule}(h:gL r.head)(hp:p.root.size<=12)(hrec:∀b,r.body=some b->(rec b).size<=300*dL b):(kE p rec r).size<=300*rwz r:=by
 obtain⟨at_,head,body⟩:=r;have hr:∀b,body=some b->(rec b).size<=300*dL b:=hrec;unfold kE rwz;cases at_ with
 |none=>
  show(Jm p head (body.getD [])).size<=300*(4*(none.getD aA).size+16+dL head+dL (body.getD []));unfold Jm;cases hs:Ot head with
  |none=>show 0<=_;omega
  |some ss=>have h1:=Ns (jV (jc p.root) ss) (tX p (body.getD []));have h2:=WU hd p.root ss (Gw _ _ _ (Sm _ h) hs) hp;have h3:=OM _ _ _ hs;have h4:=Jl p (body.getD []);have h5:=(Dl (body.getD [])).1;show(yg _ _).size<=_;omega
 |some w=>
  show(AZ p w body.isSome head (rec (body.getD []))).size<=300*(4*w.size+16+dL head+dL (body.getD []));unfold AZ;split
  .rename_i hc;cases body with
   |none=>simp at hc
   |some b=>have h0:=hr b rfl;show(yg _ (rec b)).size<=300*(4*w.size+16+dL head+dL b);have h1:=Ns (b1 64++(dP (small w)++qE (bare head))) (rec b);have h2:=fQ (small w);have h3:=Jf (bare head);have h4:=kU head;have e:(b1 64).size=1:=rfl;rw[ByteArray.size_append,ByteArray.size_append,e]at h1;rw[jE]at h2;omega
  .show 0<=_;omega
theorem uF[bV](hd:jm){p:aF}{rec:List Nd->BY}(hp:p.root.size<=12):∀(rs:List Rule),(∀r∈rs,gL r.head/\∀b,r.body=some b->(rec b).size<=300*dL b)->total (rs.map (kE p rec))<=300*Dp rs
 |[],_=>by simp[total]
 |r::q,h=>by have ih:=uF hd hp q fun x hx=>h x (by simp[hx]);have h0:=h r Ab;have h1:=aaJ hd h0.1 hp h0.2;simp only[List.map_cons,total,Dp];omega
theorem Ju:∀(l:List BY),aG l=cat l
 |[]=>rfl
 |a::r=>by show a++aG r=a++cat r;rw[Ju r]
theorem Jv:∀(l:List BY),(cat l).size=total l
 |[]=>rfl
 |a::r=>by show(a++cat r).size=a.size+total r;rw[ByteArray.size_append,Jv r]
theorem mP{sh:Bool}{l:List Nd}(hg:gL l):∀r∈rules sh l,gL r.head/\(r.at_=none->r.body.isSome=true)/\(∀b,r.body=some b->gL b/\depth b+1<=depth l)/\rwz r<=dL l:=fun r hr=>by have h1:=pO sh l;have h2:=h1.2 r hr;have h3:=YP _ r hr;exact⟨qw hg h2.head,h2.sty,fun b hb=>aju h2 hg hb,oo⟩
theorem Gy[bV]{p:aF}{rec:List Nd->BY}{sh:Bool}{l:List Nd}(hg:gL l):(rules sh l).map (kE p rec)=(rules sh l).map (H9 p rec):=List.map_congr_left fun r hr=>by have h:=mP hg r hr;exact agA h.1 h.2.1
theorem zh[bV](hd:jm)(p:aF)(hp:p.root.size<=12):∀(f:Nat) (sh:Bool) (l:List Nd),gL l->(tY p f sh l).size<=300*dL l
 |0,sh,l,hg=>by unfold tY;rw[Jv,<-Gy hg];have:=uF hd (rec:=fun _=>aA) hp (rules sh l) (fun r hr=>⟨(mP hg r hr).1,fun b _=>by show 0<=_;omega⟩);have:=(pO sh l).1;omega
 |f+1,sh,l,hg=>by unfold tY;rw[Jv,<-Gy hg];have:=uF hd (rec:=tY p f false) hp (rules sh l) (fun r hr=>⟨(mP hg r hr).1,fun b hb=>zh hd p hp f false b ((mP hg r hr).2.2.1 b hb).1⟩);have:=(pO sh l).1;omega
end
theorem adh{p:aF}{pv fv av:Av}{rec:List Nd->BY}{w:WD}{sh:Bool}{l:List Nd}(hg:gL l)(hz:dL l<=4000000)(hsz:∀b,gL b->(rec b).size<=300*dL b)
  (hrec:∀b,gL b->depth b+1<=depth l->dL b<=4000000->vX p pv fv av (rules false b) (rec b) w):∀r∈rules sh l,FH p pv fv av rec w r:=by
 intro r hr;obtain⟨h1,h2,h3,h4⟩:=mP hg r hr;have h5:=kU r.head;have h6:dL r.head+dL (r.body.getD [])<=4000000:=by unfold rwz at h4;omega
 have hgb:gL (r.body.getD []):=by
  cases hb:r.body with
  |none=>show gL [];simp[gL]
  |some b=>exact(h3 b hb).1
 refine⟨Sm _ h1,aio h1,h2,oo,fun ss hs=>?_,fun _ d hd=>?_,fun _=>?_,?_,fun x b hx hb=>?_⟩
 .have:=OM _ _ _ hs;omega
 .exact aio (qw hgb ((Dl (r.body.getD [])).2 d hd))
 .have:=(Dl (r.body.getD [])).1;omega
 .have:=hsz _ hgb;omega
 .have h7:=h3 b hb;rw[hb]at h6;exact hrec b h7.1 h7.2 (by show dL b<=_;have:dL r.head+dL b<=4000000:=h6;omega)
theorem Sz[bV](p:aF)(pv fv av:Av)(hds:jm)(hpr:allB jh p.root=true)(AY:p.root.size<=12):∀(f:Nat) (sh:Bool) (l:List Nd) (B:Nat) (w:WD),jK B w p pv fv av->jD w->gL l->depth l<=f->dL l<=4000000->vX p pv fv av (rules sh l) (tY p f sh l) w
 |0,sh,l,B,w,hP,hI,hg,hd,hz=>by
  intro u w' hb hs;have hlt:=hP.lt;have hv:tY p 0 sh l=aG ((rules sh l).map (kE p (fun _=>aA))):=by unfold tY;rw[Ju,Gy hg]
  rw[hv];refine FI w'.heap.size p pv fv av (fun _=>aA) (rules sh l) u w' ((hP.below hb hlt).mono (by have:=hb.size;omega) nl) hs (hI.below hb nl) hds hpr AY ?_ ?_
  .exact adh hg hz (fun b _=>by show 0<=_;omega) (fun b _ h _=>by omega)
  .have:=uF hds (rec:=fun _=>aA) AY (rules sh l) (fun r hr=>⟨(mP hg r hr).1,fun b _=>by show 0<=_;omega⟩);have:=(pO sh l).1;omega
 |f+1,sh,l,B,w,hP,hI,hg,hd,hz=>by
  intro u w' hb hs;have hlt:=hP.lt;have hv:tY p (f+1) sh l=aG ((rules sh l).map (kE p (tY p f false))):=by
   conv=>lhs;unfold tY
   rw[Ju,Gy hg]
  rw[hv];have hP':jK w'.heap.size w' p pv fv av:=(hP.below hb hlt).mono (by have:=hb.size;omega) nl;have hI':=hI.below hb nl;refine FI w'.heap.size p pv fv av (tY p f false) (rules sh l) u w' hP' hs hI' hds hpr AY ?_ ?_
  .exact adh hg hz (fun b hgb=>zh hds p AY f false b hgb) (fun b hgb h hzb=>Sz p pv fv av hds hpr AY f false b _ w' hP' hI' hgb oo hzb)
  .have:=uF hds (rec:=tY p f false) AY (rules sh l) (fun r hr=>⟨(mP hg r hr).1,fun b hb=>zh hds p AY f false b ((mP hg r hr).2.2.1 b hb).1⟩);have:=(pO sh l).1;omega
theorem SA:∃i,prog.info? 199=some i/\i.zero=some (.agg #[.int .i64 0,.string ⟨#[]⟩,.string ⟨#[]⟩,.slice none 0 0])/\i.size=4/\i.bytes=64:=info_parts Ao
theorem adi:∃i,prog.info? 195=some i/\i.zero=some (.agg #[.int .i64 0,.string ⟨#[]⟩,.string ⟨#[]⟩,.string ⟨#[]⟩,.slice none 0 0])/\i.size=5/\i.bytes=80:=info_parts Ao
theorem vF.last{base:Nat}{w:WD}{v:Av}{L:List Fr}{f:Fr}(h:vF base w v (L++[f])){g n cap:Nat}(e:v=.slice (some ⟨g,0,none⟩) n cap)(j:Nat)(u:Av)(hu:f.cells[j]?=some u):w.cell? ⟨g,L.length*5+j,none⟩=some u:=by
 have hj:j<5:=by have:=(List.getElem?_eq_some_iff.1 hu).1;simpa[Fr.cells]using this
 have:=h.row.cells (g:=g) (by rw[e];rfl) (L.length*5+j) u (by rw[List.flatMap_append,List.getElem?_append_right (by rw[kS];omega),kS];simpa using hu)
 rwa[Addr.add_lit,Nat.zero_add]at this
theorem vF.form{base:Nat}{w:WD}{v:Av}{L:List Fr}{f:Fr}(h:vF base w v (L++[f])):∃g cap,v=.slice (some ⟨g,0,none⟩) (L.length+1) cap:=by have:=h.row;rw[List.length_append]at this;exact Gu this
theorem agB{w:WD}{base e s n n' cap:Nat}{a:Option Addr}{xs:List Av}(h:w.ownsRow base e s (.slice a n cap) n' xs):n<=cap:=by
 rcases h.2 with⟨hv,hn⟩|⟨_,_,_,hv,_,_,hnc,_⟩
 .injection hv;omega
 .injection hv;omega
theorem put_comm(w:WD){g gv o a0 a1 a2 a3:Nat}(h:gv≠g)(y x0 x1 x2 x3:Av):((((w.setCell ⟨gv,a0,none⟩ x0).setCell ⟨gv,a1,none⟩ x1).setCell ⟨gv,a2,none⟩ x2).setCell ⟨gv,a3,none⟩ x3).setCell ⟨g,o,none⟩ y=((((w.setCell ⟨g,o,none⟩ y).setCell ⟨gv,a0,none⟩ x0).setCell ⟨gv,a1,none⟩ x1).setCell ⟨gv,a2,none⟩ x2).setCell ⟨gv,a3,none⟩ x3:=by have c:∀(w:WD) (a:Nat) (x:Av),(w.setCell ⟨gv,a,none⟩ x).setCell ⟨g,o,none⟩ y=(w.setCell ⟨g,o,none⟩ y).setCell ⟨gv,a,none⟩ x:=fun w a x=>Ou w (by exact h) _ _;rw[c,c,c,c]
theorem FK(base:Nat)(L:List Fr)(f1 f2:Fr)(v:Av)(w:WD)(h:vF base w v (L++[f1]++[f2]))(hL:L.length<=600)(h1:f1.ins.length<=600)(h2:f2.ins.length<=600)(hb:base<=w.heap.size):
  Calls prog 110 #[v] w fun e w'=>∃v' f,e=.returned v'/\vF base w' v' (L++[f])/\f.tok=f1.tok/\f.ins=f1.ins++[.mk f2.tok f2.ins]/\Below base w w':=by
 obtain⟨g,cap,rfl⟩:=h.form;have hlen:(L++[f1]).length=L.length+1:=by simp
 rw[hlen]at h⊢;have b0:=h.last rfl 0 _ rfl;have b1:=h.last rfl 1 _ rfl;have b2:=h.last rfl 2 _ rfl;have b3:=h.last rfl 3 _ rfl;have b4:=h.last rfl 4 _ rfl;rw[hlen]at b0 b1 b2 b3 b4;rw[Nat.add_zero]at b0;obtain⟨hd,hsl⟩:=h.drop h2 rfl;rw[hlen]at hd hsl;have HD:Hid (vF base w (.slice (some ⟨g,0,none⟩) (L.length+1) cap) (L++[f1])):=hd;have HSL:=hid hsl;have VJ:=hid (h.ok f2 Ab);have hg:=h.row.lt g rfl;obtain⟨a2,c2,e2⟩:=hsl.form;have hcap:L.length+1+1<=cap:=agB h.row;clear h hd hsl;rw[e2]at b4 HSL;go_in;go_upto_region 4 with fail
 have A2:Hid (vF base (w.alloc (.cells #[.int .i64 f2.tok.kind,.string f2.tok.word,.string f2.tok.unit,.string (closing f2.tok),.slice a2 f2.ins.length c2] 195)) (.slice (some ⟨g,0,none⟩) (L.length+1) cap) (L++[f1])):=HD.o.keep Ab fun k _ hk=>Below.heap_alloc _ _ _ hk;have S2:Hid (Sl (BX base (w.alloc (.cells #[.int .i64 f2.tok.kind,.string f2.tok.word,.string f2.tok.unit,.string (closing f2.tok),.slice a2 f2.ins.length c2] 195)) (.slice (some ⟨g,0,none⟩) (L.length+1) cap) (L++[f1])) (w.alloc (.cells #[.int .i64 f2.tok.kind,.string f2.tok.word,.string f2.tok.unit,.string (closing f2.tok),.slice a2 f2.ins.length c2] 195)) (.slice a2 f2.ins.length c2) f2.ins):=HSL.o.keep (fun k hk=>⟨hk.1,by have:=hk.2.1;simp;omega,hk.2.2⟩) fun k hk=>Below.heap_alloc _ _ _ hk.2.1
 have B2:Hid (Below base w (w.alloc (.cells #[.int .i64 f2.tok.kind,.string f2.tok.word,.string f2.tok.unit,.string (closing f2.tok),.slice a2 f2.ins.length c2] 195))):=Ax.alloc hb _;have l0:∀j u,[Value.int .i64 f2.tok.kind,.string f2.tok.word,.string f2.tok.unit,.string (closing f2.tok),.slice a2 f2.ins.length c2][j]?=some u->(w.alloc (.cells #[.int .i64 f2.tok.kind,.string f2.tok.word,.string f2.tok.unit,.string (closing f2.tok),.slice a2 f2.ins.length c2] 195)).cell? ⟨w.heap.size,j,none⟩=some u:=by intro j u hu;rw[World.cell?_alloc_mark,<-hu];simp
 have d0:=l0 0 _ rfl;have d1:=l0 1 _ rfl;have d2:=l0 2 _ rfl;have d4:=l0 4 _ rfl;have hz:w.heap.size<(w.alloc (.cells #[.int .i64 f2.tok.kind,.string f2.tok.word,.string f2.tok.unit,.string (closing f2.tok),.slice a2 f2.ins.length c2] 195)).heap.size:=by simp
 generalize w.alloc (.cells #[.int .i64 f2.tok.kind,.string f2.tok.word,.string f2.tok.unit,.string (closing f2.tok),.slice a2 f2.ins.length c2] 195)=w2 at *;generalize w.heap.size=gl at *;clear l0 b0 b1 b2 b3 b4 HD HSL;obtain⟨iT,hiT⟩:=SA;have HI:=hid hiT;clear hiT;have hf:w2.cell? ⟨g,L.length*5+4,none⟩=some f1.v:=A2.o.last rfl 4 _ rfl;have hz4:w2.frozen? ⟨g,L.length*5+4,none⟩=false:=by have hr:=A2.o.row;rw[hlen]at hr;exact hr.frozenAt _
 have O2:=hid (A2.o.own f1 Ab);obtain⟨ka,kc,e1⟩:=kQ O2.o;have hap:some g≠f1.v.ownBlock:=fun e2=>A2.o.apart (f:=f1) Ab g rfl e2.symm;have hgb:=A2.o.row.lt g rfl;rw[e1]at hf O2 hap;have r2:(f1.ins.length:Int)<(f1.ins.length:Int)+1:=oo;have HCL:=hid O2.o.1
 have agC:Hid (∀(gv vc:Nat) (X:Obj) (w4:WD),w4.ownsRow base 199 4 (.slice (some ⟨gv,0,none⟩) (f1.ins.length+1) vc) (f1.ins.length+1) (f1.cs++[.int .i64 0,.string ⟨#[]⟩,.string ⟨#[]⟩,.slice none 0 0])->(w2.drew.alloc X).grownBy w4 (Value.ownBlock (.slice ka f1.ins.length kc))->(some gv=Value.ownBlock (.slice ka f1.ins.length kc)\/some gv=some (w2.drew.alloc X).heap.size)->∃v' f,v'=.slice (some ⟨g,0,none⟩) (L.length+1) cap/\vF base (((((w4.setCell ⟨g,L.length*5+4,none⟩ (.slice (some ⟨gv,0,none⟩) (f1.ins.length+1) vc)).setCell ⟨gv,f1.ins.length*4,none⟩ (.int .i64 f2.tok.kind)).setCell ⟨gv,f1.ins.length*4+1,none⟩ (.string f2.tok.word)).setCell ⟨gv,f1.ins.length*4+2,none⟩ (.string f2.tok.unit)).setCell ⟨gv,f1.ins.length*4+3,none⟩ (.slice a2 f2.ins.length c2)) v' (L++[f])/\f.tok=f1.tok/\f.ins=f1.ins++[.mk f2.tok f2.ins]/\Below base w (((((w4.setCell ⟨g,L.length*5+4,none⟩ (.slice (some ⟨gv,0,none⟩) (f1.ins.length+1) vc)).setCell ⟨gv,f1.ins.length*4,none⟩ (.int .i64 f2.tok.kind)).setCell ⟨gv,f1.ins.length*4+1,none⟩ (.string f2.tok.word)).setCell ⟨gv,f1.ins.length*4+2,none⟩ (.string f2.tok.unit)).setCell ⟨gv,f1.ins.length*4+3,none⟩ (.slice a2 f2.ins.length c2))):=by
  intro gv vc X w4 hown hgr hat;have OO:base<=gv:=(hown.lt gv rfl).1;have hlo:∀rr,Value.ownBlock (.slice ka f1.ins.length kc)=some rr->base<=rr:=fun rr hr=>(O2.o.lt rr hr).1;refine⟨_,_,rfl,A2.o.put (W:=w2.drew.alloc X) rfl (.mk f2.tok f2.ins) _ ⟨S2.o,VJ.o⟩ ?_ ?_ hown ?_ ?_,rfl,rfl,?_⟩
  .simp
  .exact fun k hk=>Below.heap_alloc _ _ _ hk
  .rw[e1];exact hgr
  .rw[e1];exact hat
  .exact(((((((B2.o.drew.alloc (by have:=hgb.1;have:=hgb.2;show base<=w2.heap.size;omega) X).grown hgr An hlo).setCell hgb.1 _).setCell OO _).setCell OO _).setCell OO _).setCell OO _)
 go_region_law (refine qY rfl (.tmp 24) (.tmp 31) 128 rfl base 199 iT (.agg #[.int .i64 0,.string ⟨#[]⟩,.string ⟨#[]⟩,.slice none 0 0]) 4 64 Tryz.underlying128 HI.o.1 HI.o.2.1 HI.o.2.2.1 HI.o.2.2.2 rfl oo (.slice ka f1.ins.length kc) f1.ins.length f1.cs (by first|(simp[Act.eval];done)|simp[Act.eval,Act.put]) (O2.o.drew.alloc _) ⟨w2.heap.size,0,none⟩ 1 1 [.int .i64 0,.string ⟨#[]⟩,.string ⟨#[]⟩,.slice none 0 0] (by first|(simp[Act.eval];done)|simp[Act.eval,Act.put]) rfl (Vu _ _ _ _ _ _) (by simp[Value.oneCell']) As oo An ?_;intro v4 w4 hown4 dS oh;obtain⟨gv,vc,e4⟩:=Gu hown4;subst e4;have alx:w4.heap[g]?=w2.heap[g]?:=(dS.block g An hap).trans (Below.heap_alloc _ _ _ hgb.2);have anu:w4.cell? ⟨g,L.length*5+4,none⟩=some (.slice ka f1.ins.length kc):=(World.cell?_of_block (w:=w2) (a:=⟨g,L.length*5+4,none⟩) alx).trans hf;have anv:w4.frozen? ⟨g,L.length*5+4,none⟩=false:=(World.frozen?_of_block (w:=w2) (a:=⟨g,L.length*5+4,none⟩) alx).trans hz4;have adk:¬gv=g:=(fun e=>by subst e;rcases oh with e2|e2;exact hap e2;(simp[Value.ownBlock]at e2;omega));have aly:¬g=gv:=(fun e=>adk e.symm);obtain⟨e0,e1,e2,e3⟩:=Qv hown4 HCL.o;have k0:=hown4.frozenAt (f1.ins.length*4);have k1:=hown4.frozenAt (f1.ins.length*4+1);have k2:=hown4.frozenAt (f1.ins.length*4+2);have k3:=hown4.frozenAt (f1.ins.length*4+3))
 all_goals
  have HB4:=agC.o _ _ _ _ hown4 dS oh;have FZ:=put_comm w4 (g:=g) (gv:=gv) (o:=L.length*5+4) (a0:=f1.ins.length*4) (a1:=f1.ins.length*4+1) (a2:=f1.ins.length*4+2) (a3:=f1.ins.length*4+3) adk (.slice (some ⟨gv,0,none⟩) (f1.ins.length+1) vc) (.int .i64 f2.tok.kind) (.string f2.tok.word) (.string f2.tok.unit) (.slice a2 f2.ins.length c2);obtain⟨W5,hW5⟩:∃W5,(((((w4.setCell ⟨g,L.length*5+4,none⟩ (.slice (some ⟨gv,0,none⟩) (f1.ins.length+1) vc)).setCell ⟨gv,f1.ins.length*4,none⟩ (.int .i64 f2.tok.kind)).setCell ⟨gv,f1.ins.length*4+1,none⟩ (.string f2.tok.word)).setCell ⟨gv,f1.ins.length*4+2,none⟩ (.string f2.tok.unit)).setCell ⟨gv,f1.ins.length*4+3,none⟩ (.slice a2 f2.ins.length c2))=W5:=⟨_,rfl⟩;rw[hW5]at HB4 FZ;first
  |rw[hW5]
  |rw[FZ]
  clear FZ hW5 hown4 dS oh e0 e1 e2 e3 k0 k1 k2 k3;obtain⟨v',f,e5,h5,h6,h7,h8⟩:=HB4;have H5:=hid h5;clear h5;subst e5;go_wp2_with fail;go_ret;exact⟨_,f,rfl,H5.o,h6,h7,h8⟩
end Go.Proofs.YtlliliddljkbfaaGreat
namespace Go.Proofs.YtlliliddljkbfaaGreat
open Go.Proofs.Tryz (prog)
open Go.RowKit Go.Conc Sp
theorem Turn.upon{c:Nat}{w wr w':World}(h:Turn c w wr)(hb:Below w.heap.size wr w'):Turn c w w':=⟨hb.os.trans h.os,hb.tape.trans h.tape,hb.output.trans h.output,Nat.le_trans h.size hb.size,fun k hk hc=>(hb.block k hk).trans (h.block k hk hc)⟩
theorem Turn.setChan{c:Nat}{w wr:World}(h:Turn c w wr)(cap:Nat)(buf:Array Value)(cl:Bool)(s r:Nat)(tm:Bool):Turn c w (wr.setChan c cap buf cl s r tm):=⟨h.os,h.tape,h.output,by rw[size_setChan];exact h.size,fun k hk hc=>by rw[jQ _ _ _ _ _ _ _ _ hc];exact h.block k hk hc⟩
theorem vF.first(w:World):vF w.heap.size (w.alloc (.cells #[.int .i64 0,.string ⟨#[]⟩,.string ⟨#[]⟩,.string ⟨#[]⟩,.slice none 0 0] 195)) (.slice (some ⟨w.heap.size,0,none⟩) 1 1) [⟨Tok.k 0,[],.slice none 0 0,[]⟩]:=by
 refine⟨⟨rfl,.inr ⟨w.heap.size,1,_,rfl,Nat.le_refl _,heap_alloc_new w _,Nat.le_refl _,by unfold maxLen;omega,rfl,?_⟩⟩,fun f hf=>?_,fun f hf=>?_,fun f hf=>?_,by simp⟩
 .rfl
 .rw[List.mem_singleton.1 hf];exact World.ownsRow_nil _ _ _ _
 .rw[List.mem_singleton.1 hf];rfl
 .rw[List.mem_singleton.1 hf];exact⟨by decide,by decide,fun e=>absurd e (by decide),fun e=>absurd e (by decide),fun e=>absurd e (by decide),fun e=>absurd e (by decide)⟩
theorem amP(w:World)(a b c d e:Value)(t:TypeId):∀j u,[a,b,c,d,e][j]?=some u->(w.alloc (.cells #[a,b,c,d,e] t)).cell? ((⟨w.heap.size,0,none⟩:Addr).add j)=some u:=by intro j u hu;rw[Addr.add_lit,Nat.zero_add,World.cell?_alloc_mark,<-hu];simp
def sumF(L:List Fr):Nat:=(L.map (fun f=>f.ins.length+1)).sum
theorem iC(L:List Fr)(f:Fr):sumF (L++[f])=sumF L+(f.ins.length+1):=by simp[sumF]
theorem Jw(L:List Fr):L.length<=sumF L:=by
 induction L with
 |nil=>simp[sumF]
 |cons f r ih=>simp[sumF]at ih⊢;omega
structure LW(w:World)(all:List Tok)(c cap n:Nat)(rest:List Tok)(r:Nat)(v:Value)(L:List Fr)(d:Nat)(wr:World):Prop where
 stk:vF w.heap.size wr v L
 opens:lQ (mM L)
 fin:fin (mM L) rest=nodes all
 depth:d=dst (mM L)
 tot:sumF L+rest.length<=all.length+1
 d6:d<=all.length
 chan:wr.heap[c]?=some (.chan cap (rest.map bF).toArray true n r false)
 turn:Turn c w wr
 sub:∀t∈rest,t∈all
theorem LW.snoc{w:World}{all:List Tok}{c cap n:Nat}{rest:List Tok}{r:Nat}{v:Value}{L:List Fr}{d:Nat}{wr:World}(h:LW w all c cap n rest r v L d wr):∃L0 f,L=L0++[f]:=by
 rcases List.eq_nil_or_concat L with e|⟨l,x,e⟩
 .exact absurd (by rw[e];rfl) h.opens.ne
 .exact⟨l,x,by simpa using e⟩
section
variable {w:World} {all:List Tok} {c cap n:Nat} {rest rest':List Tok} {r r':Nat} {v v':Value} {L:List Fr} {f f1 f2:Fr} {d:Nat} {wr wr':World} {t:Tok}
theorem LW.close(h:LW w all c cap n rest r v (L++[f1]++[f2]) d wr)(adl:vF w.heap.size wr' v' (L++[f]))(ht:f.tok=f1.tok)(hi:f.ins=f1.ins++[.mk f2.tok f2.ins])
  (hr:rest'=rest/\rest=[]\/∃t,rest=t::rest'/\au t (closing f2.tok)=true) (hc:wr'.heap[c]?=some (.chan cap (rest'.map bF).toArray true n r' false)) (hb:Turn c w wr'):LW w all c cap n rest' r' v' (L++[f]) d wr':=by
 have hO:=h.opens;have hF:=h.fin;have hD:=h.depth;have hT:=h.tot;rw[dG,dG]at hO hF hD;rw[iC,iC]at hT;have hp:=hO.pop (j:=f1.ins++[.mk f2.tok f2.ins]);refine⟨adl,?_,?_,?_,?_,h.d6,hc,hb,?_⟩
 .rw[dG,ht,hi];exact hp.2
 .rw[dG,ht,hi,<-hF];rcases hr with⟨rfl,rfl⟩|⟨t,rfl,hs⟩
  .rw[afV]
  .rw[Z7 _ _ _ _ _ hs hp.1]
 .rw[dG,ht,hi,Z8 _ _ _ _ _ hp.1];exact hD
 .rw[iC,hi];rcases hr with⟨rfl,rfl⟩|⟨t,rfl,hs⟩
  .simp at hT⊢;omega
  .simp at hT⊢;omega
 .rcases hr with⟨rfl,rfl⟩|⟨t,rfl,hs⟩
  .exact h.sub
  .exact fun q hq=>h.sub q (by simp[hq])
theorem LW.opened(h:LW w all c cap n (t::rest) r v L d wr)(adl:vF w.heap.size wr' v' (L++[⟨t,[],.slice none 0 0,[]⟩]))(ht:closing t≠aA)(hc:wr'.heap[c]?=some (.chan cap (rest.map bF).toArray true n r' false))(hb:Turn c w wr'):LW w all c cap n rest r' v' (L++[⟨t,[],.slice none 0 0,[]⟩]) (max d L.length) wr':=by
 have hO:=h.opens;have hT:=h.tot;have hl:=Jw L;refine⟨adl,?_,?_,?_,?_,?_,hc,hb,fun q hq=>h.sub q (by simp[hq])⟩
 .rw[dG];exact hO.push ht []
 .rw[dG,<-h.fin];obtain⟨⟨t0,i0⟩,R,e⟩:∃x R,mM L=x::R:=by
   cases hq:mM L with
   |nil=>exact absurd hq hO.ne
   |cons x R=>exact⟨x,R,rfl⟩
  rw[e]at hO⊢;exact acd ht t0 i0 R rest hO
 .rw[dG,acg,QE,<-h.depth]
 .rw[iC];simp at hT⊢;omega
 .have:=h.d6;simp at hT;omega
theorem LW.leaf(h:LW w all c cap n (t::rest) r v (L++[f1]) d wr)(adl:vF w.heap.size wr' v' (L++[f]))(hf:f.tok=f1.tok)(hi:f.ins=f1.ins++[.mk t []])(ht:closing t=aA)(hn:¬(closing f1.tok≠aA/\au t (closing f1.tok)=true))
  (hc:wr'.heap[c]?=some (.chan cap (rest.map bF).toArray true n r' false)) (hb:Turn c w wr'):LW w all c cap n rest r' v' (L++[f]) d wr':=by
 have hO:=h.opens;have hF:=h.fin;have hD:=h.depth;have hT:=h.tot;rw[dG]at hO hF hD;rw[iC]at hT;refine⟨adl,?_,?_,?_,?_,h.d6,hc,hb,fun q hq=>h.sub q (by simp[hq])⟩
 .rw[dG,hf,hi];exact lQ.same hO
 .rw[dG,hf,hi,<-hF];exact ace ht _ _ _ _ hn
 .rw[dG,hf,hi,acf ht];exact hD
 .rw[iC,hi];simp at hT⊢;omega
end
set_option linter.unusedSimpArgs false in
theorem adn(all:List Tok)(c cap n r0:Nat)(w:World)(hch:w.heap[c]?=some (.chan cap (all.map bF).toArray true n r0 false))(h6:all.length<=600)(hok:∀t∈all,dI t):
  Calls prog 67 #[.chan (some c)] w fun e w'=>∃v,e=.returned (.tuple #[v,.int .i64 (depth (nodes all):Int)])/\Sl (oD w.heap.size w') w' v (nodes all)/\Turn c w w':=by
 have ado:c<w.heap.size:=(Ay hch);have VJ:=hid hok;have I0:Hid (LW w all c cap n all r0 (.slice (some ⟨w.heap.size,0,none⟩) 1 1) [⟨Tok.k 0,[],.slice none 0 0,[]⟩] 0 (w.alloc (.cells #[.int .i64 0,.string ⟨#[]⟩,.string ⟨#[]⟩,.string ⟨#[]⟩,.slice none 0 0] 195))):=⟨vF.first w,rfl,Z9 all,rfl,by simp[sumF];omega,oo,by rw[Below.heap_alloc _ _ _ ado];exact hch,(Turn.refl c w).alloc _,fun _ h=>h⟩
 clear hch hok;obtain⟨iT,hiT⟩:=adi;have HI:=hid hiT;clear hiT;refine Dc Tryz.func67 rfl ?_;simp only[Tryz.ntmps67,List.size_toArray,List.length_cons,List.length_nil,Nat.reduceAdd,Nat.reduceSub,Array.replicate_succ,
   Array.replicate_zero,List.push_toArray,List.append_toArray,List.nil_append,List.cons_append]
 refine nN (jI ?_);go_wp2_with fail;refine nN (jI ?_);go_wp2_with fail;refine nN ?_;refine nN (jI ?_);go_wp2_with fail;refine Et ?_
 refine RI (fun m a wr=>∃(rest:List Tok) (v:Value) (L:List Fr) (d r:Nat) (u5 u6 u7 u11 u12 u13 u14 u15 u16 u17 u18 u19 u20 u21 u22 u23 u24 u25 u26 u27 u28 u29 u30 u31 u32 u33 u34 u35 u36 u37 u38 u39 u40 u41 u42 u43 u44 u45 u46 u47 u48 u49 u50 u51 u52 u53 u54 u55 u56 u57 u58 u59 u60:Value),a=⟨#[.chan (some c),undef,.slice none 0 0,.int .i64 (d:Int),v,u5,u6,u7,.agg #[.int .i64 0,.string ⟨#[]⟩,.string ⟨#[]⟩,.string ⟨#[]⟩,.slice none 0 0],.slice (some ⟨w.heap.size,0,none⟩) 1 1,.chan (some c),u11,u12,u13,u14,u15,u16,u17,u18,u19,u20,u21,u22,u23,u24,u25,u26,u27,u28,u29,u30,u31,u32,u33,u34,u35,u36,u37,u38,u39,u40,u41,u42,u43,u44,u45,u46,u47,u48,u49,u50,u51,u52,u53,u54,u55,u56,u57,u58,u59,u60,undef,undef,undef,undef,undef,undef,undef,undef,undef,undef],[]⟩/\rest.length=m/\LW w all c cap n rest r v L d wr) all.length
  ⟨all,_,_,0,r0,_,_,_,_,_,_,_,_,_,_,_,_,_,_,_,_,_,_,_,_,_,_,_,_,_,_,_,_,_,_,_,_,_,_,_,_,_,_,_,_,_,_,_,_,_,_,_,_,_,_,_,_,_,rfl,rfl,I0.o⟩ ?_
 rintro gk _ wr ⟨rest,v,L,d,r,u5,u6,u7,u11,u12,u13,u14,u15,u16,u17,u18,u19,u20,u21,u22,u23,u24,u25,u26,u27,u28,u29,u30,u31,u32,u33,u34,u35,u36,u37,u38,u39,u40,u41,u42,u43,u44,u45,u46,u47,u48,u49,u50,u51,u52,u53,u54,u55,u56,u57,u58,u59,u60,rfl,hlen,hI⟩;obtain⟨L,f,rfl⟩:=hI.snoc;obtain⟨g,vc,rfl⟩:=hI.stk.form;have HI2:=hid hI;have hLf:L.length+f.ins.length+rest.length<=600:=by have:=hI.tot;rw[iC]at this;have:=Jw L;omega
 have hd6:d<=600:=by have:=hI.d6;omega
 have HLen:=hid hlen;clear hI hlen I0;refine nN ?_;refine I9 ?_;show Left _ _ _ [0,1] _ _;cases rest with
 |nil=>
  refine Ja (c:=c) (cap:=cap) (s:=n) (r:=r) (z:=.agg #[.int .i64 0,.string ⟨#[]⟩,.string ⟨#[]⟩]) (tm:=false) (w1:=wr) rfl rfl (by simp[go_sem,rcase]) HI2.o.chan ?_;refine AQ (v:=.bool false) (w':=wr) rfl rfl (by simp[go_sem]) ?_;refine left_nil ?_
  change YJ _ _ _ ⟨#[.chan (some c),undef,.slice none 0 0,.int .i64 (d:Int),.slice (some ⟨g,0,none⟩) (L.length+1) vc,u5,u6,u7,.agg #[.int .i64 0,.string ⟨#[]⟩,.string ⟨#[]⟩,.string ⟨#[]⟩,.slice none 0 0],.slice (some ⟨w.heap.size,0,none⟩) 1 1,.chan (some c),.tuple #[.agg #[.int .i64 0,.string ⟨#[]⟩,.string ⟨#[]⟩],.bool false],.bool false,u13,u14,u15,u16,u17,u18,u19,u20,u21,u22,u23,u24,u25,u26,u27,u28,u29,u30,u31,u32,u33,u34,u35,u36,u37,u38,u39,u40,u41,u42,u43,u44,u45,u46,u47,u48,u49,u50,u51,u52,u53,u54,u55,u56,u57,u58,u59,u60,undef,undef,undef,undef,undef,undef,undef,undef,undef,undef],[]⟩ wr;refine jI ?_;go_wp2_with fail;refine jI ?_;clear HLen;go_wp2_with fail
  go_loopg[4] L.length (fun gg v4 wq=>∃(L:List Fr) (f:Fr) (g vc:Nat),v4=.slice (some ⟨g,0,none⟩) (L.length+1) vc/\gg=L.length/\L.length+f.ins.length<=600/\Aside (LW w all c cap n [] r (.slice (some ⟨g,0,none⟩) (L.length+1) vc) (L++[f]) d wq));case atStart=>exact⟨L,f,g,vc,rfl,rfl,by simpa using hLf,HI2.o⟩
  case round=>
   obtain⟨L1,f1,g1,vc1,rfl,rfl,amQ,hA⟩:=hrel;have HI3:Hid (LW w all c cap n [] r (.slice (some ⟨g1,0,none⟩) (L1.length+1) vc1) (L1++[f1]) d wr):=hA.o;clear hA HI2;rcases List.eq_nil_or_concat L1 with e|⟨L2,f2,e⟩
   .subst e;have HF:Hid (nodes all=f1.ins):=by
     show _=_;rw[<-HI3.o.fin];show fin (mM ([]++[f1])) []=_;rw[dG];show fin [(f1.tok,f1.ins)] []=_;rw[y8,jB];simp
    have HD:Hid (d=depth f1.ins):=by show _=_;rw[HI3.o.depth,dG];simp[mM,dst]
    obtain⟨_,hsl⟩:=HI3.o.stk.drop oo rfl;have HSL:Hid (Sl (oD w.heap.size wr) wr f1.v f1.ins):=hsl.keep (fun _ hg=>⟨hg.1,hg.2.1⟩) fun _ _=>rfl;have c4:=HI3.o.stk.last rfl 4 _ rfl;have hT:=hid HI3.o.turn;simp only[List.length_nil,Nat.zero_mul,Nat.zero_add]at c4;clear hsl HI3;simp only[List.length_nil,Nat.zero_add];go_wp2_with fail;go_ret2
    exact⟨f1.v,by rw[HF.o,HD.o];rfl,by rw[HF.o];exact HSL.o,hT.o⟩
   .rw[List.concat_eq_append]at e;subst e;have hl2:(L2++[f2]).length=L2.length+1:=by simp
    rw[hl2]at amQ HI3⊢;have h1l:(1:Int)<(L2.length:Int)+1+1:=oo;have hf2:f2.ins.length<=600:=by have:=HI3.o.tot;rw[iC,iC]at this;omega
    have hbs:=HI3.o.turn.size;clear hl2;go_wp2_with fail;refine(FK w.heap.size L2 f2 f1 _ wr HI3.o.stk oo hf2 oo hbs).mono ?_;rintro e w5 ⟨v5,f5,rfl,hst5,ht5,hi5,hb5⟩;have HI5:Hid (LW w all c cap n [] r v5 (L2++[f5]) d w5):=HI3.o.close hst5 ht5 hi5 (.inl ⟨rfl,rfl⟩) (by rw[hb5.block c ado];exact HI3.o.chan) (HI3.o.turn.upon hb5);have hf5:L2.length+f5.ins.length<=600:=by have q1:=HI5.o.tot;rw[iC]at q1;have q2:=Jw L2;simp only[List.length_nil]at q1;omega
    obtain⟨g5,vc5,e5⟩:=hst5.form;subst e5;clear hst5 ht5 hi5 hb5 HI3;go_wp2_with fail;go_roundg L2.length;case measure=>simp
    case rel=>exact⟨L2,f5,g5,vc5,rfl,rfl,hf5,HI5.o⟩
 |cons t rest=>
  refine aax (c:=c) (cap:=cap) (s:=n) (r:=r) (closed:=true) (buf:=((t::rest).map bF).toArray) (z:=.agg #[.int .i64 0,.string ⟨#[]⟩,.string ⟨#[]⟩]) (tm:=false) (w1:=wr) rfl rfl (by simp[go_sem,rcase]) HI2.o.chan (by simp) ?_;have e1:((t::rest).map bF).toArray.getD 0 undef=.agg #[.int .i64 t.kind,.string t.word,.string t.unit]:=rfl;have e2:((t::rest).map bF).toArray.extract 1 ((t::rest).map bF).toArray.size=(rest.map bF).toArray:=by apply Array.ext';simp;exact List.take_of_length_le (by simp)
  rw[e1,e2];have HC3:Hid ((wr.setChan c cap (rest.map bF).toArray true n (r+1) false).heap[c]?=some (.chan cap (rest.map bF).toArray true n (r+1) false)):=heap_setChan _ _ _ _ _ _ _ _ (by have:=HI2.o.turn.size;omega);have HK3:Hid (vF w.heap.size (wr.setChan c cap (rest.map bF).toArray true n (r+1) false) (.slice (some ⟨g,0,none⟩) (L.length+1) vc) (L++[f])):=HI2.o.stk.keep (by rw[size_setChan];omega) fun k hk _=>jQ _ _ _ _ _ _ _ _ oo;have HT3:Hid (Turn c w (wr.setChan c cap (rest.map bF).toArray true n (r+1) false)):=HI2.o.turn.setChan _ _ _ _ _ _;generalize wr.setChan c cap (rest.map bF).toArray true n (r+1) false=wx at *;clear e1 e2;refine AQ (v:=.bool true) (w':=wx) rfl rfl (by simp[go_sem]) ?_;refine left_nil ?_
  change YJ _ _ _ ⟨#[.chan (some c),undef,.slice none 0 0,.int .i64 (d:Int),.slice (some ⟨g,0,none⟩) (L.length+1) vc,u5,u6,u7,.agg #[.int .i64 0,.string ⟨#[]⟩,.string ⟨#[]⟩,.string ⟨#[]⟩,.slice none 0 0],.slice (some ⟨w.heap.size,0,none⟩) 1 1,.chan (some c),.tuple #[.agg #[.int .i64 t.kind,.string t.word,.string t.unit],.bool true],.bool true,u13,u14,u15,u16,u17,u18,u19,u20,u21,u22,u23,u24,u25,u26,u27,u28,u29,u30,u31,u32,u33,u34,u35,u36,u37,u38,u39,u40,u41,u42,u43,u44,u45,u46,u47,u48,u49,u50,u51,u52,u53,u54,u55,u56,u57,u58,u59,u60,undef,undef,undef,undef,undef,undef,undef,undef,undef,undef],[]⟩ wx;refine jI ?_;simp only[List.length_cons]at hLf;have hws:=HT3.o.size
  have l0:∀j u,[Value.int .i64 t.kind,.string t.word,.string t.unit][j]?=some u->(wx.alloc (.cells #[.int .i64 t.kind,.string t.word,.string t.unit] 93)).cell? ⟨wx.heap.size,j,none⟩=some u:=by intro j u hu;rw[World.cell?_alloc_mark,<-hu];simp
  have L0:=hid l0;have HK4:Hid (vF w.heap.size (wx.alloc (.cells #[.int .i64 t.kind,.string t.word,.string t.unit] 93)) (.slice (some ⟨g,0,none⟩) (L.length+1) vc) (L++[f])):=HK3.o.keep (by simp) fun k _ hk=>Below.heap_alloc _ _ _ hk;have HT4:Hid (Turn c w (wx.alloc (.cells #[.int .i64 t.kind,.string t.word,.string t.unit] 93))):=HT3.o.alloc _;have FZ:Hid ((wx.alloc (.cells #[.int .i64 t.kind,.string t.word,.string t.unit] 93)).heap[c]?=some (.chan cap (rest.map bF).toArray true n (r+1) false)):=by show _=_;rw[Below.heap_alloc _ _ _ oo];exact HC3.o
  have hz4:wx.heap.size<(wx.alloc (.cells #[.int .i64 t.kind,.string t.word,.string t.unit] 93)).heap.size:=by simp
  have hgt:g<wx.heap.size:=(HK3.o.row.lt g rfl).2;have HFG:Hid (∀k,f.v.ownBlock=some k->k<wx.heap.size):=fun k hk=>((HK3.o.own f (by simp)).lt k hk).2;clear l0 HC3 HK3 HT3;go_upto_region 6 with fail
  generalize wx.alloc (.cells #[.int .i64 t.kind,.string t.word,.string t.unit] 93)=w2 at *;generalize wx.heap.size=gt at *;have t0:=L0.o 0 _ rfl;have t1:=L0.o 1 _ rfl;have t2:=L0.o 2 _ rfl;clear L0;go_wp2_with fail;refine pmb (G9 t _) fun w3 hb3=>?_;have hw2:=HT4.o.size;have HK5:Hid (vF w.heap.size w3 (.slice (some ⟨g,0,none⟩) (L.length+1) vc) (L++[f])):=HK4.o.keep hb3.size fun k _ hk=>hb3.block k hk;have HT5:=hid (HT4.o.upon (hb3.mono hw2));have xg:Hid (w3.heap[c]?=some (.chan cap (rest.map bF).toArray true n (r+1) false)):=by show _=_;rw[hb3.block c oo];exact FZ.o
  have T0:w3.cell? ⟨gt,0,none⟩=some (.int .i64 t.kind):=(hb3.cell (by exact hz4)).trans t0;have T1:w3.cell? ⟨gt,1,none⟩=some (.string t.word):=(hb3.cell (by exact hz4)).trans t1;have T2:w3.cell? ⟨gt,2,none⟩=some (.string t.unit):=(hb3.cell (by exact hz4)).trans t2;have hz5:gt<w3.heap.size:=Nat.lt_of_lt_of_le hz4 hb3.size;have ajv:=hid (VJ.o t (HI2.o.sub t (by simp)));clear hb3 HK4 HT4 FZ t0 t1 t2 hz4;cases hcl:(closing t).toList==([]:List UInt8)
  .have hcl':closing t≠aA:=by
    rw[ay]at hcl;simpa[aA]using hcl
   have HCL:=hid hcl';clear hcl';obtain⟨xs,Hxs⟩:∃xs,Hid ((L++[f]).flatMap Fr.cells=xs):=⟨_,hid rfl⟩;have ajw:Hid (w3.ownsRow w.heap.size 195 5 (.slice (some ⟨g,0,none⟩) (L.length+1) vc) (L.length+1) xs):=by have:=HK5.o.row;rw[List.length_append,Hxs.o]at this;exact this
   have hw3:=HT5.o.size;go_wp2_with(at_builtin;go_must(refine wpList_append_own_at _ rfl _ _ 196 rfl w.heap.size 195 iT (.agg #[.int .i64 0,.string ⟨#[]⟩,.string ⟨#[]⟩,.string ⟨#[]⟩,.slice none 0 0]) 5 80 Tryz.underlying196 HI.o.1 HI.o.2.1 HI.o.2.2.1 HI.o.2.2.2 rfl oo (.slice (some ⟨g,0,none⟩) (L.length+1) vc) (L.length+1) xs rfl (ajw.o.alloc _) ⟨w3.heap.size,0,none⟩ 1 1 [.int .i64 t.kind,.string t.word,.string t.unit,.string (closing t),.slice none 0 0] rfl rfl (amP _ _ _ _ _ _ _) (by simp[Value.oneCell']) (by unfold maxLen;omega) oo (by simp;omega) ?_));intro v4 w4 hown4 dS _ oh;have hgl:∀rr,Value.ownBlock (.slice (some ⟨g,0,none⟩) (L.length+1) vc)=some rr->w.heap.size<=rr:=fun rr hr=>(ajw.o.lt rr hr).1
   have WV:Hid (vF w.heap.size w4 v4 (L++[f]++[⟨t,[],.slice none 0 0,[]⟩])):=HK5.o.push t ajv.o (by rw[List.length_append,Hxs.o];exact hown4) (by have:=dS.size;simp at this;omega) (fun k hk h1=>by rw[dS.block k (by simp;omega) h1,Below.heap_alloc _ _ _ hk]) (by rcases oh with e|e;exact .inl e;exact .inr ⟨_,e,by simp⟩);have HB6:Below w.heap.size w3 w4:=(Ax.alloc hw3 _).grown dS (by simp;omega) hgl;have HI6:Hid (LW w all c cap n rest (r+1) v4 (L++[f]++[⟨t,[],.slice none 0 0,[]⟩]) (max d (L.length+1)) w4):=by have:=HI2.o.opened (r':=r+1) WV.o HCL.o (by rw[HB6.block c ado];exact xg.o) (HT5.o.upon HB6);rwa[List.length_append]at this
   obtain⟨g4,vc4,e4⟩:=Gu hown4;subst e4;clear hown4 dS oh HB6 WV HK5 HT5 xg HI2 ajw;have SC:rest.length<gk:=by have:=HLen.o;simp at this;omega
   have em:max (d:Int) ((L.length:Int)+1)=((max d (L.length+1):Nat):Int):=oo;have EM:=hid em;clear em;go_wp2_with fail;rw[EM.o];exact⟨rest.length,SC,rest,_,_,max d (L.length+1),r+1,_,_,_,_,_,_,_,_,_,_,_,_,_,_,_,_,_,_,_,_,_,_,_,_,_,_,_,_,_,_,_,_,_,_,_,_,_,_,_,_,_,_,_,_,_,_,_,_,_,_,_,_,_,rfl,rfl,HI6.o⟩
  .have hcl':closing t=aA:=by
    rw[ay]at hcl;simpa[aA]using hcl
   have HCL:=hid hcl';clear hcl';have hw3:=HT5.o.size;have c3:w3.cell? ⟨g,L.length*5+3,none⟩=some (.string (closing f.tok)):=HK5.o.last rfl 3 _ rfl;obtain⟨b,Hb⟩:∃b,Hid ((t.kind==15&&(t.word.toList==(closing f.tok).toList))=b):=⟨_,hid rfl⟩;have q1:(0:Int)<=(L.length:Int):=oo;have q2:(L.length:Int)<(L.length:Int)+1:=oo;have SC:rest.length<gk:=by have:=HLen.o;simp at this;omega
   go_upto_region 11 with fail
   go_cut [45] from 11 to 60 (fun s45 wx=>s45=.bool b/\∃nq,wx=w3.drewN nq);case first=>
    cases hk:(t.kind==15)
    .have hb:b=false:=by rw[<-Hb.o,hk];rfl
     subst hb;go_quiet (fail)
     go_wp2_with fail;go_meet
     exact⟨rfl,_,rfl⟩
    .have hb:b=(t.word.toList==(closing f.tok).toList):=by rw[<-Hb.o,hk];rfl
     subst hb;go_quiet (fail)
     go_wp2_with fail;go_meet
     exact⟨rfl,_,rfl⟩
   case rest=>
   obtain⟨rfl,nq,rfl⟩:=hcut;have amR:gt<(w3.drewN nq).heap.size:=hz5;have WV:Hid (vF w.heap.size (w3.drewN nq) (.slice (some ⟨g,0,none⟩) (L.length+1) vc) (L++[f])):=HK5.o.keep nl fun _ _ _=>rfl;have HT6:Hid (Turn c w (w3.drewN nq)):=HT5.o.drewN nq;have OA:Hid ((w3.drewN nq).heap[c]?=some (.chan cap (rest.map bF).toArray true n (r+1) false)):=xg.o;have s0:(w3.drewN nq).cell? ⟨gt,0,none⟩=some (.int .i64 t.kind):=T0;have s1:(w3.drewN nq).cell? ⟨gt,1,none⟩=some (.string t.word):=T1;have s2:(w3.drewN nq).cell? ⟨gt,2,none⟩=some (.string t.unit):=T2;have hw6:w.heap.size<=(w3.drewN nq).heap.size:=hw3;generalize w3.drewN nq=w6 at *;clear HK5 HT5 xg T0 T1 T2 c3 hz5 hw3;cases b
   .have hb:=Hb.o;have HN:Hid (¬(closing f.tok≠aA/\au t (closing f.tok)=true)):=by
     intro hh;have h2:=hh.2;unfold au at h2;simp only[Bool.and_eq_true,decide_eq_true_eq]at h2;have h3:=bytes_beq t.word (closing f.tok);rw[h2.2]at h3;rw[h2.1,h2.2]at hb;simp at h3 hb
    clear hb Hb;obtain⟨iV,hiV⟩:=SA;have HV:=hid hiV;clear hiV;have O6:=hid (WV.o.own f (by simp));obtain⟨ka,kc,e1⟩:=kQ O6.o;have hap:some g≠f.v.ownBlock:=fun e2=>WV.o.apart (f:=f) (by simp) g rfl e2.symm;have hgb:=WV.o.row.lt g rfl;have hf:w6.cell? ⟨g,L.length*5+4,none⟩=some f.v:=WV.o.last rfl 4 _ rfl;have hz4:w6.frozen? ⟨g,L.length*5+4,none⟩=false:=by have hr:=WV.o.row;rw[List.length_append]at hr;exact hr.frozenAt _
    have agC:Hid (∀(gv vcv:Nat) (X:Obj) (w8:World),w8.ownsRow w.heap.size 199 4 (.slice (some ⟨gv,0,none⟩) (f.ins.length+1) vcv) (f.ins.length+1) (f.cs++[.int .i64 0,.string ⟨#[]⟩,.string ⟨#[]⟩,.slice none 0 0])->(w6.drew.alloc X).grownBy w8 f.v.ownBlock->(some gv=f.v.ownBlock\/some gv=some (w6.drew.alloc X).heap.size)->LW w all c cap n rest (r+1) (.slice (some ⟨g,0,none⟩) (L.length+1) vc) (L++[⟨f.tok,f.ins++[.mk t []],.slice (some ⟨gv,0,none⟩) (f.ins.length+1) vcv,f.cs++[.int .i64 t.kind,.string t.word,.string t.unit,.slice none 0 0]⟩]) d (((((w8.setCell ⟨g,L.length*5+4,none⟩ (.slice (some ⟨gv,0,none⟩) (f.ins.length+1) vcv)).setCell ⟨gv,f.ins.length*4,none⟩ (.int .i64 t.kind)).setCell ⟨gv,f.ins.length*4+1,none⟩ (.string t.word)).setCell ⟨gv,f.ins.length*4+2,none⟩ (.string t.unit)).setCell ⟨gv,f.ins.length*4+3,none⟩ (.slice none 0 0))):=by
     intro gv vcv X w8 hown hgr hat;have OO:w.heap.size<=gv:=(hown.lt gv rfl).1;have hlo:∀rr,f.v.ownBlock=some rr->w.heap.size<=rr:=fun rr hr=>(O6.o.lt rr hr).1;have hst:=WV.o.put (W:=w6.drew.alloc X) rfl (.mk t []) _ ⟨Sl.nil _ _,ajv.o⟩ (by simp) (fun k hk=>Below.heap_alloc _ _ _ hk) hown hgr hat;have hb:Below w.heap.size w6 (((((w8.setCell ⟨g,L.length*5+4,none⟩ (.slice (some ⟨gv,0,none⟩) (f.ins.length+1) vcv)).setCell ⟨gv,f.ins.length*4,none⟩ (.int .i64 t.kind)).setCell ⟨gv,f.ins.length*4+1,none⟩ (.string t.word)).setCell ⟨gv,f.ins.length*4+2,none⟩ (.string t.unit)).setCell ⟨gv,f.ins.length*4+3,none⟩ (.slice none 0 0)):=(((((((Ax.drew.alloc hw6 X).grown hgr (by simp;omega) hlo).setCell hgb.1 _).setCell OO _).setCell OO _).setCell OO _).setCell OO _)
     exact HI2.o.leaf hst rfl rfl HCL.o HN.o (by rw[hb.block c ado];exact OA.o) (HT6.o.upon hb)
    rw[e1]at hf O6 hap HFG agC;have KS:Hid (∀(W:World) (k o:Nat) (u:Value),k≠gt->(fun wx=>wx.cell? ⟨gt,0,none⟩=some (.int .i64 t.kind)/\wx.cell? ⟨gt,1,none⟩=some (.string t.word)/\wx.cell? ⟨gt,2,none⟩=some (.string t.unit)) W->(fun wx=>wx.cell? ⟨gt,0,none⟩=some (.int .i64 t.kind)/\wx.cell? ⟨gt,1,none⟩=some (.string t.word)/\wx.cell? ⟨gt,2,none⟩=some (.string t.unit)) (W.setCell ⟨k,o,none⟩ u)):=by intro W k o u hk hS;have e:∀j,(W.setCell ⟨k,o,none⟩ u).cell? ⟨gt,j,none⟩=W.cell? ⟨gt,j,none⟩:=fun j=>World.cell?_of_block (w:=W) (Below.heap_setCell _ _ _ _ (by show gt≠k;exact fun e=>hk e.symm));exact⟨(e 0).trans hS.1,(e 1).trans hS.2.1,(e 2).trans hS.2.2⟩
    have r2:(f.ins.length:Int)<(f.ins.length:Int)+1:=oo;have amS:=hid O6.o.1;have sS:(fun wx=>wx.cell? ⟨gt,0,none⟩=some (.int .i64 t.kind)/\wx.cell? ⟨gt,1,none⟩=some (.string t.word)/\wx.cell? ⟨gt,2,none⟩=some (.string t.unit)) w6.drew:=⟨s0,s1,s2⟩;have HSA:(fun wx=>wx.cell? ⟨gt,0,none⟩=some (.int .i64 t.kind)/\wx.cell? ⟨gt,1,none⟩=some (.string t.word)/\wx.cell? ⟨gt,2,none⟩=some (.string t.unit)) (w6.drew.alloc (.cells #[.int .i64 0,.string ⟨#[]⟩,.string ⟨#[]⟩,.slice none 0 0] 199)):=by have e:∀j,(w6.drew.alloc (.cells #[.int .i64 0,.string ⟨#[]⟩,.string ⟨#[]⟩,.slice none 0 0] 199)).cell? ⟨gt,j,none⟩=w6.drew.cell? ⟨gt,j,none⟩:=fun j=>World.cell?_of_block (w:=w6.drew) (Below.heap_alloc _ _ _ amR);exact⟨(e 0).trans s0,(e 1).trans s1,(e 2).trans s2⟩
    have hfA:(w6.drew.alloc (.cells #[.int .i64 0,.string ⟨#[]⟩,.string ⟨#[]⟩,.slice none 0 0] 199)).cell? ⟨g,L.length*5+4,none⟩=some (.slice ka f.ins.length kc):=(World.cell?_of_block (w:=w6.drew) (a:=⟨g,L.length*5+4,none⟩) (Below.heap_alloc _ _ _ hgb.2)).trans hf;clear HI2 WV HT6 OA s0 s1 s2;go_wp2_with fail;refine wp_region_held_drew (S:=(fun wx=>wx.cell? ⟨gt,0,none⟩=some (.int .i64 t.kind)/\wx.cell? ⟨gt,1,none⟩=some (.string t.word)/\wx.cell? ⟨gt,2,none⟩=some (.string t.unit))) (by kernel_rfl) sS (fun _=>?_);refine Qp 0 rfl sS (fun _ _=>gs) ?_;refine Qp 1 rfl sS (fun _ _=>gs) ?_;refine Qp 2 rfl sS (fun _ _=>gs) ?_;refine Qp 3 rfl sS (fun _ _=>gs) ?_
    refine Qp 5 rfl sS (by intro w hSw;obtain⟨z0,z1,z2⟩:=hSw;exact gs) ?_;refine Qp 6 rfl sS (fun _ _=>gs) ?_;refine wpAnyH_ready (rs:=[4,8]) (by kernel_rfl) (by simp) ?_;refine AllReadyH.cons rfl (fun K hK=>?_) (AllReadyH.cons rfl (fun K hK=>?_) AllReadyH.nil);focus
     go_simp;refine hK.o _ _ sS (fun _=>?_);clear hK K;refine Qp 7 rfl sS (fun _ _=>gs) ?_;refine iW 8 fun K hK=>?_;go_simp;refine hK.o _ _ (HSA) (fun _=>?_);clear hK K
    rotate_left;focus
     go_simp;refine hK.o _ _ HSA (fun _=>?_);clear hK K;refine iW 4 fun K hK=>?_;go_simp;refine hK.o _ _ (HSA) (fun _=>?_);clear hK K;refine Qp 7 rfl HSA (fun _ _=>gs) ?_
    rotate_left;all_goals
     refine wpAnyH_ready (rs:=[9]) (by kernel_rfl) (by simp) ?_;refine AllReadyH.cons rfl (fun K hK=>?_) AllReadyH.nil;refine qY rfl (.tmp 23) (.tmp 27) 128 rfl w.heap.size 199 iV (.agg #[.int .i64 0,.string ⟨#[]⟩,.string ⟨#[]⟩,.slice none 0 0]) 4 64 Tryz.underlying128 HV.o.1 HV.o.2.1 HV.o.2.2.1 HV.o.2.2.2 rfl oo (.slice ka f.ins.length kc) f.ins.length f.cs (by simp[Act.eval]) (O6.o.drew.alloc _) ⟨w6.heap.size,0,none⟩ 1 1 [.int .i64 0,.string ⟨#[]⟩,.string ⟨#[]⟩,.slice none 0 0] (by simp[Act.eval]) rfl (Vu _ _ _ _ _ _) (by simp[Value.oneCell']) (by unfold maxLen;omega) oo (by simp;omega) ?_;intro v8 w8 eP lD agD;obtain⟨gv,vcv,e8⟩:=Gu eP;subst e8;have alz:w8.heap[g]?=w6.heap[g]?:=(lD.block g (by simp;omega) hap).trans (Below.heap_alloc _ _ _ hgb.2)
     have anw:w8.cell? ⟨g,L.length*5+4,none⟩=some (.slice ka f.ins.length kc):=(World.cell?_of_block (w:=w6) (a:=⟨g,L.length*5+4,none⟩) alz).trans hf;have anx:w8.frozen? ⟨g,L.length*5+4,none⟩=false:=(World.frozen?_of_block (w:=w6) (a:=⟨g,L.length*5+4,none⟩) alz).trans hz4;have adk:¬gv=g:=by
      rintro rfl;rcases agD with e2|e2
      .exact hap e2
      .simp[Value.ownBlock]at e2;omega
     have aly:¬g=gv:=fun e=>adk e.symm;have F8:gv≠gt:=by
      rintro rfl;rcases agD with e2|e2
      .have:=HFG.o gv e2.symm;omega
      .simp[Value.ownBlock]at e2;omega
     have ajx:g≠gt:=oo;obtain⟨x0,x1,x2,x3⟩:=Qv eP amS.o;have k0:=eP.frozenAt (f.ins.length*4);have k1:=eP.frozenAt (f.ins.length*4+1);have k2:=eP.frozenAt (f.ins.length*4+2);have k3:=eP.frozenAt (f.ins.length*4+3);have HS8:(fun wx=>wx.cell? ⟨gt,0,none⟩=some (.int .i64 t.kind)/\wx.cell? ⟨gt,1,none⟩=some (.string t.word)/\wx.cell? ⟨gt,2,none⟩=some (.string t.unit)) w8:=by have hbt:w8.heap[gt]?=(w6.drew.alloc (.cells #[.int .i64 0,.string ⟨#[]⟩,.string ⟨#[]⟩,.slice none 0 0] 199)).heap[gt]?:=lD.block gt (by simp;omega) (fun e=>by have:=HFG.o gt e.symm;omega);have e:∀j,w8.cell? ⟨gt,j,none⟩=(w6.drew.alloc (.cells #[.int .i64 0,.string ⟨#[]⟩,.string ⟨#[]⟩,.slice none 0 0] 199)).cell? ⟨gt,j,none⟩:=fun j=>World.cell?_of_block (w:=w6.drew.alloc (.cells #[.int .i64 0,.string ⟨#[]⟩,.string ⟨#[]⟩,.slice none 0 0] 199)) hbt;exact⟨(e 0).trans HSA.1,(e 1).trans HSA.2.1,(e 2).trans HSA.2.2⟩
     have HIB:=agC.o gv vcv _ w8 eP lD agD;have HI8:=hid HIB;clear HIB eP lD agD;refine hK.o _ _ HS8 (fun _=>?_);clear hK K;refine Qp 10 rfl HS8 (fun _ _=>gs) ?_;refine Qp 12 rfl HS8 (fun _ _=>gs) ?_
     refine Qp 13 rfl HS8 (fun _ _=>gs) ?_;refine wpAnyH_ready (rs:=[11,14]) (by kernel_rfl) (by simp) ?_;refine AllReadyH.cons rfl (fun K hK=>?_) (AllReadyH.cons rfl (fun K hK=>?_) AllReadyH.nil)
     .go_simp;refine hK.o _ _ (KS.o _ _ _ _ F8 (KS.o _ _ _ _ F8 (KS.o _ _ _ _ F8 (KS.o _ _ _ _ F8 HS8)))) (fun _=>?_);clear hK K;refine iW 14 fun K hK=>?_;go_simp;refine hK.o _ _ (KS.o _ _ _ _ ajx (KS.o _ _ _ _ F8 (KS.o _ _ _ _ F8 (KS.o _ _ _ _ F8 (KS.o _ _ _ _ F8 HS8))))) (fun _=>?_);clear hK K;refine wpAnyH_done (by kernel_rfl) ?_ _;refine(show ∃n',n'<gk/\_ from⟨rest.length,SC,?_⟩);exact⟨rest,_,_,d,r+1,_,_,_,_,_,_,_,_,_,_,_,_,_,_,_,_,_,_,_,_,_,_,_,_,_,_,_,_,_,_,_,_,_,_,_,_,_,_,_,_,_,_,_,_,_,_,_,_,_,_,_,_,_,rfl,rfl,by rw[put_comm w8 adk];exact HI8.o⟩
     .go_simp;refine hK.o _ _ (KS.o _ _ _ _ ajx HS8) (fun _=>?_);clear hK K;refine iW 11 fun K hK=>?_;go_simp;refine hK.o _ _ (KS.o _ _ _ _ F8 (KS.o _ _ _ _ F8 (KS.o _ _ _ _ F8 (KS.o _ _ _ _ F8 (KS.o _ _ _ _ ajx HS8))))) (fun _=>?_);clear hK K;refine wpAnyH_done (by kernel_rfl) ?_ _;refine(show ∃n',n'<gk/\_ from⟨rest.length,SC,?_⟩);exact⟨rest,_,_,d,r+1,_,_,_,_,_,_,_,_,_,_,_,_,_,_,_,_,_,_,_,_,_,_,_,_,_,_,_,_,_,_,_,_,_,_,_,_,_,_,_,_,_,_,_,_,_,_,_,_,_,_,_,_,_,rfl,rfl,HI8.o⟩
   .have hb:=Hb.o;simp only[Bool.and_eq_true,beq_iff_eq]at hb;have HS:Hid (au t (closing f.tok)=true):=by
     show _=_;unfold au;have e:t.word=closing f.tok:=by have:=bytes_beq t.word (closing f.tok);rw[hb.2]at this;simpa using this.symm
     simp[hb.1,e]
    have HN:Hid (closing f.tok≠aA):=by
     intro e;have e2:t.word=aA:=by have:=bytes_beq t.word (closing f.tok);rw[hb.2]at this;rw[<-e];simpa using this.symm
     have:=ajv.o.sign hb.1;rw[e2]at this;exact absurd this (by decide)
    clear hb Hb;rcases List.eq_nil_or_concat L with e|⟨L2,f2,e⟩
    .exfalso
     have:=HI2.o.opens;rw[e,dG]at this;exact HN.o this
    rw[List.concat_eq_append]at e;subst e;have hl2:(L2++[f2]).length=L2.length+1:=by simp
    rw[hl2]at hLf HI2 WV q1 q2⊢;have hf2:f2.ins.length<=600:=by have:=HI2.o.tot;rw[iC,iC]at this;simp at this;omega
    have hf1:f.ins.length<=600:=by have:=HI2.o.tot;rw[iC,iC]at this;simp at this;omega
    clear hl2;go_wp2_with fail;refine(FK w.heap.size L2 f2 f _ w6 WV.o oo hf2 hf1 hw6).mono ?_;rintro e w7 ⟨v7,f7,rfl,alA,ht7,hi7,hb7⟩;have HI7:Hid (LW w all c cap n rest (r+1) v7 (L2++[f7]) d w7):=HI2.o.close alA ht7 hi7 (.inr ⟨t,rfl,HS.o⟩) (by rw[hb7.block c ado];exact OA.o) (HT6.o.upon hb7);clear alA ht7 hi7 hb7 HI2 WV;go_wp2_with fail;exact⟨rest.length,SC,rest,_,_,d,r+1,_,_,_,_,_,_,_,_,_,_,_,_,_,_,_,_,_,_,_,_,_,_,_,_,_,_,_,_,_,_,_,_,_,_,_,_,_,_,_,_,_,_,_,_,_,_,_,_,_,_,_,_,_,rfl,rfl,HI7.o⟩
end Go.Proofs.YtlliliddljkbfaaGreat
namespace Go.Proofs.YtlliliddljkbfaaGreat
open Go.Proofs.Tryz (prog)
open Go.RowKit Sp
structure Lit(w:WD):Prop where
 glob:∃m,w.cell? ⟨0,0,none⟩=some (.int .i64 m)
 pos:0<w.heap.size
theorem Lit.below{w w':WD}(h:Lit w)(hb:Below w.heap.size w w'):Lit w':=by obtain⟨m,hm⟩:=h.glob;exact⟨⟨m,by rw[<-hm];exact World.cell?_of_block (w:=w) (hb.block 0 h.pos)⟩,Nat.lt_of_lt_of_le h.pos hb.size⟩
theorem FM(s:BY)(w:WD)(hs:s.size<=600)(hl:Lit w):
  Calls prog 40 #[.string s] w fun e w'=>(∃u,e=.returned (.tuple #[u,.bool (decide (depth (bH s)<=8))])/\(depth (bH s)<=8->SG dB 4 (fun b=>b<w'.heap.size) w' u (rules true (bH s)))/\(¬depth (bH s)<=8->u=.slice none 0 0))/\Below w.heap.size w w':=by
 have HL:=hid hl;have hcs:=oZ s;have htl:=WM (Sp.clean s);have HTO:Hid (∀t∈toks (Sp.clean s),dI t):=Oz oo;obtain⟨nd,Hnd⟩:=Nm (bH s);have Hn2:Hid (nodes (toks (Sp.clean s))=nd):=Hnd.o;rw[Hnd.o];clear hl;go_in;go_wp2_with fail;refine(Df s w hs HL.o.glob HL.o.pos).mono ?_;rintro e w1 ⟨c,cap,n,rfl,hcw,hch,hb1⟩;have HC:=hid hch;have B1:=hid hb1;have hs1:=hb1.size;clear hch hb1;go_wp2_with fail;refine(adn (toks (Sp.clean s)) c cap n 0 w1 HC.o oo HTO.o).mono ?_;rw[Hn2.o];rintro e w2 ⟨v2,rfl,hS2,hT2⟩;obtain⟨va,vc,rfl⟩:=hS2.form;have B2:Hid (Below w.heap.size w w2):=Turn.over B1.o hT2 hcw;have hs2:=B2.o.size
 have HS2:Hid (Sl (fun b=>b<w2.heap.size) w2 (.slice va nd.length vc) nd):=hS2.keep (fun _ h=>h.2) (fun _ _=>rfl);clear hS2 hT2 HC;by_cases hd:depth nd<=8
 .have hd2:¬(8:Int)<(depth nd:Int):=oo;have hd3:(depth nd:Int)<=8:=oo;have HD:Hid (depth nd<=8):=hd;clear hd;go_wp2_with fail;refine(Rl w2.heap.size nd _ w2 HS2.o nl).mono ?_;rintro e w3 ⟨u3,rfl,WW,hb3⟩;obtain⟨ra,rc,rfl⟩:=WW.form;have Rn:=hid WW;have B3:=hid (B2.o.trans (hb3.mono hs2));clear WW hb3;go_wp2_with fail;go_ret2
  exact⟨⟨_,by rw[decide_eq_true HD.o];rfl,fun _=>Rn.o,fun h=>absurd HD.o h⟩,B3.o⟩
 .have hd2:(8:Int)<(depth nd:Int):=oo;have HD:Hid (¬depth nd<=8):=hd;clear hd;go_wp2_with fail;go_ret2
  exact⟨⟨_,by rw[decide_eq_false HD.o];rfl,fun h=>absurd h HD.o,fun _=>rfl⟩,B2.o⟩
theorem WX[bV]{s:BY}{p:aF}(h:qp p=false):dR s p=(aA,5):=by unfold dR;rw[if_pos h]
theorem SE[bV]{s:BY}{p:aF}(h:qp p=true)(h1:600<s.size):dR s p=(aA,1):=by unfold dR;rw[if_neg (by rw[h];simp),if_pos h1]
theorem SH[bV]{s:BY}{p:aF}(h:qp p=true)(h1:¬600<s.size)(h2:¬depth (bH s)<=8):dR s p=(aA,2):=by unfold dR;rw[if_neg (by rw[h];simp),if_neg h1,if_pos oo]
theorem SI[bV]{s:BY}{p:aF}(h:qp p=true)(h1:¬600<s.size)(h2:depth (bH s)<=8):dR s p=(tY p (depth (bH s)) true (bH s),0):=by unfold dR;rw[if_neg (by rw[h];simp),if_neg h1,if_neg oo]
theorem YT[bV](B:Nat)(s:BY)(p:aF)(pv fv av:Av)(w:WD)(hP:jK B w p pv fv av)(hI:jD w)(hds:jm)(hl:Lit w)(hr:p.root.size<=4194304)(hs:s.size<4611686018427387904):
  Calls prog 18 #[.string s,dF p pv fv av] w fun e w'=>e=.returned (.tuple #[.string (dR s p).1,.int .i64 (dR s p).2])/\Below w.heap.size w w':=by
 have hB:=hP.lt;obtain⟨pa,pc,rfl⟩:=hP.props.form;obtain⟨fa,fc,rfl⟩:=hP.aJ.form;obtain⟨aa,ac,rfl⟩:=hP.ats.form;have HL:=hid hl;have HII:=hid hI;have HDS:Hid jm:=hds;have HPM:=hid hP;obtain⟨B0,Q0⟩:=Qa.nb p pa fa aa pc fc ac w;clear hP hl hI hds;unfold dF;go_in;go_upto_region 1 with fail
 have hsz0:=B0.o.size;generalize w.alloc (.cells #[.string p.root,.slice pa p.props.length pc,.slice fa p.aJ.length fc,.slice aa p.ats.length ac,.bool p.aU,.bool p.texts] 41)=w0 at *;obtain⟨q0,q1,q2,q3,q4,q5⟩:=Q0.o.cs;have HC:=agu B p _ _ _ w0 (HPM.o.below B0.o hB) hr;unfold dF at HC;obtain⟨z,Hz⟩:=Nm (qp p);rw[Hz.o]at HC;have HC':Hid (Calls prog 39 #[.agg #[.string p.root,.slice pa p.props.length pc,.slice fa p.aJ.length fc,.slice aa p.ats.length ac,.bool p.aU,.bool p.texts]] w0 fun e w'=>(∃u,e=.returned (.tuple #[u,.bool z])/\(z=true->u=.agg #[.string p.root,.slice pa p.props.length pc,.slice fa p.aJ.length fc,.slice aa p.ats.length ac,.bool p.aU,.bool p.texts])/\(z=false->u=.agg #[.string ⟨#[]⟩,.slice none 0 0,.slice none 0 0,.slice none 0 0,.bool false,.bool false]))/\Below w0.heap.size w0 w'):=HC;clear HC
 go_wp2_with fail;refine HC'.o.mono ?_;rintro e w1 ⟨⟨u,rfl,hu1,hu2⟩,hb1⟩;have B1:=hid (B0.o.trans (hb1.mono hsz0));have hs1:=B1.o.size;clear hb1 HC' q0 q1 q2 q3 q4 q5;cases z
 .have hu:=hu2 rfl;subst hu;have HV:Hid (dR s p=(aA,5)):=WX Hz.o;clear hu1 hu2;go_wp2_with fail;go_ret2
  rw[HV.o];exact⟨rfl,B1.o.alloc hs1 _⟩
 .have hu:=hu1 rfl;subst hu;clear hu1 hu2;have B2:Hid (Below w.heap.size w (w1.alloc (.cells #[.string p.root,.slice pa p.props.length pc,.slice fa p.aJ.length fc,.slice aa p.ats.length ac,.bool p.aU,.bool p.texts] 82))):=B1.o.alloc hs1 _;have Q2:Hid (Q6 (w1.alloc (.cells #[.string p.root,.slice pa p.props.length pc,.slice fa p.aJ.length fc,.slice aa p.ats.length ac,.bool p.aU,.bool p.texts] 82)) w1.heap.size (.string p.root) (.slice pa p.props.length pc) (.slice fa p.aJ.length fc) (.slice aa p.ats.length ac) (.bool p.aU) (.bool p.texts)):=Q6.new _ _ _ _ _ _ _;go_upto_region 2 with fail
  generalize w1.alloc (.cells #[.string p.root,.slice pa p.props.length pc,.slice fa p.aJ.length fc,.slice aa p.ats.length ac,.bool p.aU,.bool p.texts] 82)=w2 at *;obtain⟨gt,mV⟩:=Nm w1.heap.size;rw[mV.o]at Q2 hs1⊢;have hs2:=B2.o.size;have hlt2:=Q2.o.lt;by_cases h6:600<s.size
  .have h6i:(600:Int)<(s.size:Int):=oo;have HV:Hid (dR s p=(aA,1)):=SE Hz.o h6;clear h6;go_wp2_with fail;go_ret2
   rw[HV.o];exact⟨rfl,B2.o⟩
  .have h6i:¬(600:Int)<(s.size:Int):=oo;have h6j:(s.size:Int)<=600:=oo;have H6:=hid h6;clear h6;have HLW:=HL.o.below B2.o;have HRS:=FM s w2 oo HLW;obtain⟨dd,Hdd⟩:=Nm (decide (depth (bH s)<=8));rw[Hdd.o]at HRS;have alB:=hid HRS;clear HRS HLW;go_wp2_with fail;refine alB.o.mono ?_;rintro e w3 ⟨⟨u3,rfl,hu1,hu2⟩,hb3⟩;have B3:=hid (B2.o.trans (hb3.mono hs2));have Q3':Hid (Q6 w3 gt (.string p.root) (.slice pa p.props.length pc) (.slice fa p.aJ.length fc) (.slice aa p.ats.length ac) (.bool p.aU) (.bool p.texts)):=Q2.o.below hb3 hlt2;have hs3:=B3.o.size;clear hb3 alB;cases dd
   .have hd:=of_decide_eq_false Hdd.o;have hu:=hu2 hd;subst hu;have HV:Hid (dR s p=(aA,2)):=SH Hz.o H6.o hd;clear hu1 hu2 hd;go_wp2_with fail;go_ret2
    rw[HV.o];exact⟨rfl,B3.o⟩
   .have hd:=of_decide_eq_true Hdd.o;have hsg:=hu1 hd;obtain⟨ra,rc,rfl⟩:=hsg.form;have Rn:=hid hsg;have HV:Hid (dR s p=(tY p (depth (bH s)) true (bH s),0)):=SI Hz.o H6.o hd;clear hu1 hu2 hd hsg;have hpp:=Hz.o;rw[YM]at hpp;simp only[Bool.and_eq_true,decide_eq_true_eq]at hpp;have hsg:=Di (s:=s) oo;have HB:=Sz p (.slice pa p.props.length pc) (.slice fa p.aJ.length fc) (.slice aa p.ats.length ac) HDS.o hpp.1.1.1.1.1 hpp.1.1.1.1.2 (depth (bH s)) true (bH s) B w HPM.o HII.o hsg.1 nl hsg.2 _ w3 B3.o Rn.o;unfold dF at HB;have HB':=hid HB;clear HB hpp hsg;obtain⟨q0,q1,q2,q3,q4,q5⟩:=Q3'.o.cs;go_wp2_with fail;refine HB'.o.mono ?_;rintro e w4 ⟨rfl,hb4⟩;have B4:=hid (B3.o.trans (hb4.mono hs3));clear hb4 HB';go_wp2_with fail;go_ret2
    rw[HV.o];exact⟨rfl,B4.o⟩
end Go.Proofs.YtlliliddljkbfaaGreat
namespace Go.Proofs.YtlliliddljkbfaaGreat.Sp
def At(s:BY)(i:Nat)(l:List UInt8):Prop:=i<=s.size/\s.data.toList.drop i=l
def jy:List UInt8->Int
 |[]=>-1
 |c::_=>(c.toNat:Int)
theorem At.size{s:BY}{i:Nat}{l:List UInt8}(h:At s i l):i+l.length=s.size:=by have h1:=congrArg List.length h.2;have h2:=h.1;have h3:s.data.toList.length=s.size:=rfl;rw[List.length_drop,h3]at h1;omega
theorem At.zero(s:BY):At s 0 s.data.toList:=⟨Nat.zero_le _,rfl⟩
theorem At.app{s:BY}{i:Nat}{a l:List UInt8}(h:At s i (a++l)):At s (i+a.length) l:=by have h1:=h.size;refine⟨by simp at h1;omega,?_⟩;rw[<-List.drop_drop,h.2];simp
theorem At.tl{s:BY}{i:Nat}{c:UInt8}{l:List UInt8}(h:At s i (c::l)):At s (i+1) l:=At.app (a:=[c]) h
theorem At.hd{s:BY}{i:Nat}{l:List UInt8}(h:At s i l):pk s i=jy l:=by
 have h1:=h.size;cases l with
 |nil=>exact oK (by simp at h1;omega)
 |cons c r=>
  have hi:i<s.size:=by simp at h1;omega
  rw[zK hi];have h2:s.data.toList[i]?=some c:=by have:=congrArg (fun x=>x[0]?) h.2;simpa using this
  have h3:s.data.toList[i]'hi=c:=(List.getElem?_eq_some_iff.1 h2).2;show((s.data[i]'hi).toNat:Int)=_;rw[<-Array.getElem_toList];rw[h3];rfl
theorem At.lt{s:BY}{i:Nat}{c:UInt8}{l:List UInt8}(h:At s i (c::l)):i<s.size:=by have:=h.size;simp at this;omega
theorem At.one{s:BY}{i:Nat}{c:UInt8}{l:List UInt8}(h:At s i (c::l)):one s i=b1 c:=by
 have h1:=h.size;unfold Sp.one b1;apply ByteArray.ext
 rw[ByteArray.data_extract];apply Array.toList_inj.1
 rw[Array.toList_extract,List.extract_eq_take_drop,h.2];simp
theorem kV(a b:BY):(a++b).data.toList=a.data.toList++b.data.toList:=by simp
def WY(c:UInt8):List UInt8:=[92,hexD (c.toNat/16),hexD (c.toNat%16),32]
def ny(ok:Nat->UInt8->Bool):Nat->List UInt8->List UInt8
 |_,[]=>[]
 |i,c::r=>(if ok i c=true then [c] else WY c)++ny ok (i+1) r
theorem OQ(ok:Nat->UInt8->Bool):∀(l:List UInt8) (i:Nat),(BP ok i l).data.toList=ny ok i l
 |[],_=>rfl
 |c::r,i=>by unfold BP ny;rw[kV,OQ ok r (i+1)];split<;>rfl
theorem rO(ok:Nat->UInt8->Bool):∀(l:List UInt8) (i:Nat),l.length<=(ny ok i l).length
 |[],_=>Nat.le_refl _
 |c::r,i=>by have:=rO ok r (i+1);unfold ny;split<;>simp[WY]<;>omega
theorem adp:∀n,n<16->xk ((hexD n).toNat:Int)=(n:Int):=by decide
theorem YU:∀n,n<16->((hexD n).toNat:Int)≠10:=by decide
def zq(c:UInt8):UInt8:=if c.toNat=0 then 63 else c
theorem Gz{s:BY}{i:Nat}{c:UInt8}{r:List UInt8}(h:At s i (WY c++r)):esc s i=(b1 (zq c),i+4)/\kY s i=true:=by
 have hc:=c.toNat_lt;have h0:At s i (92::hexD (c.toNat/16)::hexD (c.toNat%16)::32::r):=h;have h1:=h0.tl;have h2:=h1.tl;have h3:=h2.tl;have e0:pk s i=92:=h0.hd;have e1:pk s (i+1)=((hexD (c.toNat/16)).toNat:Int):=h1.hd;have e2:pk s (i+1+1)=((hexD (c.toNat%16)).toNat:Int):=h2.hd;have e3:pk s (i+1+1+1)=32:=h3.hd;have d1:=adp (c.toNat/16) AF;have d2:=adp (c.toNat%16) AF;have hF:tJ s 6 (i+1) 0=(c.toNat,i+1+1+1):=by
  unfold tJ;rw[e1,d1,if_pos (by omega)];unfold tJ;rw[e2,d2,if_pos (by omega)];unfold tJ;rw[e3,if_neg (by decide)];congr 1
  simp;omega
 refine⟨?_,?_⟩
 .unfold esc;simp only[hF];rw[if_neg (by omega),e3,show aO 32=true by decide];refine Prod.ext ?_ rfl;show(if 1<=c.toNat/\c.toNat<=255 then E8 c.toNat else Ec)=b1 (zq c);unfold zq;by_cases hz:c.toNat=0
  .rw[if_neg (by omega),if_pos hz];rfl
  .rw[if_pos (by omega),if_neg hz];unfold E8 b1;rw[show UInt8.ofNat c.toNat=c from UInt8.ofNat_toNat]
 .unfold kY;rw[e0,e1];have:=YU (c.toNat/16) AF;simp[this]
def uG(r:List UInt8):Prop:=lX (jy r)=false/\jy r≠92
theorem OT(acc:BY)(c:UInt8)(l:List UInt8):acc++b1 c++(⟨l.toArray⟩:BY)=acc++⟨(c::l).toArray⟩:=by
 apply ByteArray.ext
 apply Array.toList_inj.1
 simp[b1]
theorem zi{s:BY}(ok:Nat->UInt8->Bool)(hok:∀i c,ok i c=true->lX (c.toNat:Int)=true)(hz:∀i c,ok i c=true->zq c=c){r:List UInt8}(hr:uG r):∀(l:List UInt8) (j f i:Nat) (acc:BY),At s i (ny ok j l++r)->l.length<=f->iK s f i acc=(acc++⟨(l.map zq).toArray⟩,i+(ny ok j l).length)
 |[],j,f,i,acc,h,_=>by
  have e:pk s i=jy r:=At.hd (l:=r) h;have ea:acc++(⟨(([]:List UInt8).map zq).toArray⟩:BY)=acc:=by apply ByteArray.ext;simp
  cases f with
  |zero=>unfold iK ny;rw[ea];rfl
  |succ f=>
   unfold iK;rw[e,hr.1];have:kY s i=false:=by unfold kY;rw[e];simp[hr.2]
   rw[this,ea];rfl
 |c::l,j,f,i,acc,h,hf=>by
  obtain⟨f,rfl⟩:∃g,f=g+1:=⟨f-1,by simp at hf;omega⟩;have hf':l.length<=f:=by simp at hf;omega
  unfold ny at h⊢;by_cases ho:ok j c=true
  .rw[if_pos ho]at h⊢;have h0:At s i (c::(ny ok (j+1) l++r)):=h;have e:pk s i=(c.toNat:Int):=h0.hd;unfold iK;rw[e,hok j c ho,if_pos rfl,h0.one,zi ok hok hz hr l (j+1) f (i+1) _ h0.tl hf'];rw[OT,List.map_cons,hz j c ho];simp;omega
  .rw[if_neg ho]at h⊢;rw[List.append_assoc]at h;have he:=Gz h;have e:pk s i=92:=At.hd (l:=92::_) h;unfold iK;rw[e,if_neg (by decide),he.2,if_pos rfl,he.1,zi ok hok hz hr l (j+1) f (i+4) _ (At.app h) hf'];rw[OT,List.map_cons];simp[WY];omega
theorem SK{c:UInt8}(h:oU c=true):kK (c.toNat:Int)=true:=by unfold oU at h;unfold kK;simp at h⊢;omega
theorem nS{w:BY}{i:Nat}{c:UInt8}(h:dZ w i c=true):kK (c.toNat:Int)=true\/(oV c=true/\i≠0/\¬(i=1/\pk w 0=45))\/(c=45/\w.size≠1):=by
 unfold dZ at h;split at h
 .rename_i hd;right;left;simp at h;exact⟨hd,h.1,fun hh=>h.2.elim (fun a=>a hh.1) (fun a=>a hh.2)⟩
 .split at h
  .rename_i hc;right;right;simp at h;exact⟨hc,h⟩
  .left;simp at h;rcases h with h|h
   .exact SK h
   .subst h;decide
theorem yu{w:BY}{i:Nat}{c:UInt8}(h:dZ w i c=true):lX (c.toNat:Int)=true:=by
 unfold lX;rcases nS h with h|h|h
 .rw[h];rfl
 .have:=h.1;unfold oV at this;unfold fG;simp at this⊢;omega
 .rw[h.1];decide
theorem Nu{w:BY}{i:Nat}{c:UInt8}(h:dZ w i c=true):zq c=c:=by have:=yu h;unfold zq;rw[if_neg];intro hz;rw[hz]at this;revert this;decide
def gZ(w:BY):List UInt8:=ny (dZ w) 0 w.data.toList
theorem pR(w:BY):(dP w).data.toList=gZ w:=OQ _ _ _
def oJ(w:BY):List UInt8:=ny (fun i c=>dZ w i c&&!(i==0&&(c==101||c==69))) 0 w.data.toList
theorem agE(w:BY):(Fe w).data.toList=oJ w:=OQ _ _ _
def vZ(w:BY):BY:=⟨(w.data.toList.map zq).toArray⟩
theorem ED{s w:BY}{i:Nat}{r:List UInt8}(hr:uG r)(h:At s i (gZ w++r)):name s i=(vZ w,i+(gZ w).length):=by
 have hl:=rO (dZ w) w.data.toList 0;have hs:=h.size;unfold name;rw[zi (dZ w) (fun _ _ h=>yu h) (fun _ _ h=>Nu h) hr w.data.toList 0 s.size i _ h (by rw[List.length_append]at hs;unfold gZ at hs;omega)];refine Prod.ext ?_ rfl;apply ByteArray.ext
 simp[vZ]
theorem aaK{s w:BY}{i:Nat}{r:List UInt8}(hr:uG r)(h:At s i (oJ w++r)):name s i=(vZ w,i+(oJ w).length):=by
 have hl:=rO (fun i c=>dZ w i c&&!(i==0&&(c==101||c==69))) w.data.toList 0;have hs:=h.size;unfold name;rw[zi (fun i c=>dZ w i c&&!(i==0&&(c==101||c==69))) (fun _ _ h=>yu (Bool.and_eq_true_iff.1 h).1) (fun _ _ h=>Nu (Bool.and_eq_true_iff.1 h).1) hr w.data.toList 0 s.size i _ h (by rw[List.length_append]at hs;unfold oJ at hs;omega)];refine Prod.ext ?_ rfl;apply ByteArray.ext
 simp[vZ]
theorem YV{s w:BY}{i:Nat}{r:List UInt8}(ok:Nat->UInt8->Bool)(hok:∀j c,ok j c=true->dZ w j c=true)(hw:0<w.size)(h:At s i (ny ok 0 w.data.toList++r)):iG s i=true:=by
 obtain⟨l,hl⟩:∃l,w.data.toList=l:=⟨_,rfl⟩;have hsz:w.size=l.length:=by rw[<-hl];rfl
 have hp0:pk w 0=jy l:=by rw[<-hl];exact(At.zero w).hd
 rw[hl]at h;match l,hsz,hp0,h with
 |[],hsz,_,_=>rw[hsz]at hw;exact absurd hw (Nat.lt_irrefl _)
 |c::l,hsz,hp0,h=>
  unfold ny at h;by_cases ho:ok 0 c=true
  .rw[if_pos ho]at h;have h0:At s i (c::(ny ok 1 l++r)):=h;have e:pk s i=(c.toNat:Int):=h0.hd;rcases nS (hok 0 c ho)with hc|hc|hc
   .unfold iG;rw[e,hc];split
    .rename_i h45;rw[h45]at hc;exact absurd hc (by decide)
    .rfl
   .exact absurd rfl hc.2.1
   .match l,hsz,h0 with
    |[],hsz,_=>exact absurd (by simpa using hsz) hc.2
    |d::l,hsz,h0=>
     have h1:=h0.tl;unfold iG;rw[e,hc.1,if_pos (by decide)];unfold ny at h1;by_cases ho1:ok 1 d=true
     .rw[if_pos ho1]at h1;have e1:pk s (i+1)=(d.toNat:Int):=At.hd (l:=d::_) h1;rw[e1];rcases nS (hok 1 d ho1)with hd|hd|hd
      .rw[hd];rfl
      .refine absurd ⟨rfl,?_⟩ hd.2.2;rw[hp0,hc.1];rfl
      .rw[hd.1];simp
     .rw[if_neg ho1,List.append_assoc]at h1;rw[(Gz h1).2];simp
  .rw[if_neg ho,List.append_assoc]at h;have e:pk s i=92:=At.hd (l:=92::_) h;unfold iG;rw[e,if_neg (by decide),(Gz h).2];simp
theorem Du{s w:BY}{i:Nat}{r:List UInt8}(hw:0<w.size)(h:At s i (gZ w++r)):iG s i=true:=YV _ (fun _ _ h=>h) hw h
theorem adq{s w:BY}{i:Nat}{r:List UInt8}(hw:0<w.size)(h:At s i (oJ w++r)):iG s i=true:=YV _ (fun _ _ h=>(Bool.and_eq_true_iff.1 h).1) hw h
def yw(w:BY):List UInt8:=34::(ny (fun _ c=>jO c) 0 w.data.toList++[34])
theorem YW(w:BY):(xG w).data.toList=yw w:=by unfold xG yw;rw[kV,kV,OQ];rfl
theorem aaL{c:UInt8}(h:jO c=true):(c.toNat:Int)≠34/\(c.toNat:Int)≠10/\(c.toNat:Int)≠92/\zq c=c:=by
 unfold jO at h;simp at h;refine⟨?_,by omega,?_,?_⟩
 .intro e;exact h.2.1.1.1 (UInt8.toNat_inj.1 (by simpa using(show c.toNat=34 by omega)))
 .intro e;exact h.2.1.1.2 (UInt8.toNat_inj.1 (by simpa using(show c.toNat=92 by omega)))
 .unfold zq;rw[if_neg (by omega)]
theorem Jy{s:BY}{r:List UInt8}:∀(l:List UInt8) (j f i:Nat) (acc:BY),At s i (ny (fun _ c=>jO c) j l++34::r)->l.length<f->lK s 34 f i acc=(Tok.w 2 (acc++⟨(l.map zq).toArray⟩),i+(ny (fun _ c=>jO c) j l).length+1)
 |[],j,f,i,acc,h,hf=>by
  obtain⟨f,rfl⟩:∃g,f=g+1:=⟨f-1,by simp at hf;omega⟩;have h0:At s i (34::r):=h;have e:pk s i=34:=h0.hd;have ea:acc++(⟨(([]:List UInt8).map zq).toArray⟩:BY)=acc:=by apply ByteArray.ext;simp
  unfold lK;rw[if_neg (by have:=h0.lt;omega),if_pos e,ea];rfl
 |c::l,j,f,i,acc,h,hf=>by
  obtain⟨f,rfl⟩:∃g,f=g+1:=⟨f-1,by simp at hf;omega⟩;have hf':l.length<f:=by simp at hf;omega
  unfold ny at h⊢;by_cases ho:jO c=true
  .rw[if_pos ho]at h⊢;have h0:At s i (c::(ny (fun _ c=>jO c) (j+1) l++34::r)):=h;have e:pk s i=(c.toNat:Int):=h0.hd;have hc:=aaL ho;unfold lK;rw[if_neg (by have:=h0.lt;omega),if_neg (by rw[e];exact hc.1),if_neg (by rw[e];exact hc.2.1),if_neg (by rw[e];exact hc.2.2.1),h0.one,Jy l (j+1) f (i+1) _ h0.tl hf'];rw[OT,List.map_cons,hc.2.2.2];refine Prod.ext rfl ?_;simp;omega
  .rw[if_neg ho]at h⊢;rw[List.append_assoc]at h;have h0:At s i (92::hexD (c.toNat/16)::hexD (c.toNat%16)::32::(ny (fun _ c=>jO c) (j+1) l++34::r)):=h;have he:=Gz h;have e:pk s i=92:=h0.hd;have e1:pk s (i+1)=((hexD (c.toNat/16)).toNat:Int):=h0.tl.hd;have hn:=YU (c.toNat/16) (by have:=c.toNat_lt;omega);unfold lK;rw[if_neg (by have:=h0.lt;omega),if_neg (by rw[e];decide),if_neg (by rw[e];decide),if_pos e,if_neg (by have:=h0.tl.lt;omega),if_neg (by rw[e1];exact hn),he.1,Jy l (j+1) f (i+4) _ (At.app h) hf'];rw[OT,List.map_cons];refine Prod.ext rfl ?_;simp[WY];omega
theorem aaM{s w:BY}{i:Nat}{r:List UInt8}(h:At s i (yw w++r)):token s i=(Tok.w 2 (vZ w),i+(yw w).length):=by
 have h0:At s i (34::(ny (fun _ c=>jO c) 0 w.data.toList++34::r)):=by unfold yw at h;simpa using h
 have e:pk s i=34:=h0.hd;have hl:=rO (fun _ c=>jO c) w.data.toList 0;have hs:=h0.size;unfold token;rw[e,if_neg (by decide),if_pos (by decide)];unfold txt;rw[Jy w.data.toList 0 s.size (i+1) _ h0.tl (by simp at hs;omega)];refine Prod.ext ?_ ?_
 .show Tok.w 2 _=Tok.w 2 _;rw[show ByteArray.empty++(⟨(w.data.toList.map zq).toArray⟩:BY)=vZ w by apply ByteArray.ext;simp[vZ]]
 .simp[yw];omega
section
theorem EF(s:BY):∀f a,s.size<=a+f->(∀x,a<=x->x<wU s f a->fG (pk s x)=true)/\fG (pk s (wU s f a))=false
 |0,a,h=>⟨fun x h1 h2=>by unfold wU at h2;omega,by unfold wU;rw[oK (by omega)];rfl⟩
 |f+1,a,h=>by
  unfold wU;by_cases hd:fG (pk s a)=true
  .rw[if_pos hd];have ih:=EF s f (a+1) AF;refine⟨fun x h1 h2=>?_,ih.2⟩;by_cases e:x=a
   .rw[e];exact hd
   .exact ih.1 x AF h2
  .rw[if_neg hd];exact⟨fun x h1 h2=>by omega,by simpa using hd⟩
theorem Dv{s:BY}{a x:Nat}(h1:a<=x)(h2:x<mW s a):fG (pk s x)=true:=(EF s s.size a AF).1 x h1 h2
theorem YX(s:BY)(a:Nat):fG (pk s (mW s a))=false:=(EF s s.size a AF).2
theorem SL{s:BY}{a b:Nat}(hab:a<=b)(h1:∀x,a<=x->x<b->fG (pk s x)=true)(h2:fG (pk s b)=false):mW s a=b:=by
 have g:=xw s a;rcases Nat.lt_trichotomy (mW s a) b with h|h|h
 .have:=h1 _ g h;rw[YX]at this;cases this
 .exact h
 .have:=Dv hab h;rw[h2]at this;cases this
def nT(c:Int):Prop:=fG c=false/\c≠46/\c≠101/\c≠69
section
variable {s t:BY} {i j n:Nat} (ha : ∀ d,d<n->pk t (j+d)=pk s (i+d)) (hst:nT (pk t (j+n)))
include ha hst
theorem EH{d e:Nat}(hd:mW s (i+d)=i+e)(he:e<=n):mW t (j+d)=j+e:=by
 have g:=xw s (i+d);refine SL AF (fun x h1 h2=>?_) ?_
 .have:=Dv (s:=s) (a:=i+d) (x:=i+(x-j)) AF AF;rw[show x=j+(x-j) by omega,ha _ (by omega)];exact this
 .by_cases h:e<n
  .rw[ha e h,<-hd];exact YX s _
  .rw[show e=n by omega];exact hst.1
theorem aaN(hb:iO s i=true)(hn:bT s i=i+n):iO t j=true/\bT t j=j+n:=by
 obtain⟨σ,hσ⟩:∃σ,mX s i=i+σ:=⟨mX s i-i,by have:=Ef s i;omega⟩;have hσ1:σ<=1:=by have:=afI s i;omega
 obtain⟨e1,h1⟩:∃e,mW s (i+σ)=i+e:=⟨mW s (i+σ)-i,by have:=xw s (i+σ);omega⟩;obtain⟨e2,h2⟩:∃e,jL s (i+e1)=i+e:=⟨jL s (i+e1)-i,by have:=Bz s (i+e1);omega⟩;have g1:=xw s (i+σ);have g2:=Bz s (i+e1);have hn':iq s (i+e2)=i+n:=by have:=hn;unfold bT at this;rw[hσ,h1,h2]at this;exact this
 have g3:=Oj s (i+e2);have hlt:=yY hb;have h0:pk t j=pk s i:=by have:=ha 0 AF;simpa using this
 have hσt:mX t j=j+σ:=by
  unfold mX at hσ⊢;rw[h0];split<;>rename_i hs
  .rw[if_pos hs]at hσ;omega
  .rw[if_neg hs]at hσ;omega
 have k1:mW t (j+σ)=j+e1:=EH ha hst h1 AF;have k2:jL t (j+e1)=j+e2:=by
  unfold jL at h2⊢;by_cases hf:pk s (i+e1)=46/\fG (pk s (i+e1+1))=true
  .rw[if_pos hf]at h2;have g4:=GY hf.2;rw[ha e1 (by omega),Nat.add_assoc,ha (e1+1) (by omega),<-Nat.add_assoc,if_pos hf];exact EH ha hst (d:=e1+1) (by rw[<-Nat.add_assoc];exact h2) AF
  .rw[if_neg hf]at h2;have e:e1=e2:=by omega
   rw[if_neg,e];intro hh;by_cases h:e1<n
   .rw[ha e1 h]at hh;unfold iq at hn';split at hn'
    .rename_i hx;rw[<-e,hh.1]at hx;omega
    .omega
   .rw[show e1=n by omega]at hh;exact hst.2.1 hh.1
 have k3:iq t (j+e2)=j+n:=by
  unfold iq at hn' ⊢;by_cases hx:pk s (i+e2)=101\/pk s (i+e2)=69
  .rw[if_pos hx]at hn';by_cases hy:fG (pk s (mX s (i+e2+1)))=true
   .rw[if_pos hy]at hn';have g4:=GY hy;obtain⟨e3,h3⟩:∃e,mX s (i+e2+1)=i+e:=⟨mX s (i+e2+1)-i,by have:=Ef s (i+e2+1);omega⟩;have g5:=Ef s (i+e2+1);have q1:pk t (j+e2)=pk s (i+e2):=ha e2 AF;have q2:pk t (j+e2+1)=pk s (i+e2+1):=by rw[Nat.add_assoc,Nat.add_assoc];exact ha (e2+1) AF
    have q3:mX t (j+e2+1)=j+e3:=by
     unfold mX at h3⊢;rw[q2];split<;>rename_i hs
     .rw[if_pos hs]at h3;omega
     .rw[if_neg hs]at h3;omega
    rw[h3]at hy hn' g4;rw[q1,if_pos hx,q3,ha e3 (by omega),if_pos hy];exact EH ha hst hn' (Nat.le_refl _)
   .rw[if_neg hy]at hn';have e:e2=n:=by omega
    rw[e,if_neg];exact fun h=>h.elim hst.2.2.1 hst.2.2.2
  .rw[if_neg hx]at hn';have e:e2=n:=by omega
   rw[e,if_neg];exact fun h=>h.elim hst.2.2.1 hst.2.2.2
 refine⟨?_,?_⟩
 .unfold iO at hb⊢;rw[hσ]at hb;rw[hσt];by_cases hd:fG (pk s (i+σ))=true
  .have:=GY hd;rw[ha σ (by omega),hd];rfl
  .have hd':fG (pk s (i+σ))=false:=by simpa using hd
   rw[hd']at hb;simp only[Bool.false_or,Bool.and_eq_true,beq_iff_eq]at hb;have hs:=Qm hd';have e:e1=σ:=by omega
   have hf:jL s (i+e1)=mW s (i+e1+1):=by unfold jL;rw[if_pos (by rw[e];exact hb)]
   have:=GY (s:=s) (i:=i+e1+1) (by rw[e];exact hb.2);rw[ha σ (by omega),Nat.add_assoc,ha (σ+1) (by omega),<-Nat.add_assoc,hb.1,hb.2];simp
 .unfold bT;rw[hσt,k1,k2,k3]
end
def LX(x:BY):Prop:=∀(t:BY) (j:Nat) (r:List UInt8),At t j (x.data.toList++r)->nT (jy r)->iO t j=true/\bT t j=j+x.size
theorem At.WZ{s t:BY}{i k j:Nat}{r:List UInt8}(hk:k<=s.size)(h:At t j ((s.extract i k).data.toList++r)):∀d,d<k-i->pk t (j+d)=pk s (i+d):=by
 intro d hd;have hsz:=h.size;have hl:(s.extract i k).data.toList.length=k-i:=by
  have:(s.extract i k).size=k-i:=by rw[ByteArray.size_extract];omega
  exact this
 have hlt:j+d<t.size:=by rw[List.length_append,hl]at hsz;omega
 rw[zK hlt,zK (show i+d<s.size by omega)];have h1:t.data.toList[j+d]?=s.data.toList[i+d]?:=by have e:=congrArg (fun x=>x[d]?) h.2;simp only[List.getElem?_drop]at e;rw[e,List.getElem?_append_left (by omega),ByteArray.data_extract,Array.toList_extract,List.extract_eq_take_drop,List.getElem?_take,if_pos (by omega),List.getElem?_drop]
 have h2:t.data[j+d]'hlt=s.data[i+d]'(show i+d<s.size by omega):=by rw[Array.getElem?_toList,Array.getElem?_toList]at h1;rw[Array.getElem?_eq_getElem hlt,Array.getElem?_eq_getElem (show i+d<s.data.size by have:s.data.size=s.size:=rfl;omega)]at h1;exact Option.some.inj h1
 show((t.data[j+d]'hlt).toNat:Int)=_;rw[h2];rfl
theorem adr{s:BY}{i:Nat}(hi:i<=s.size)(hb:iO s i=true):LX (s.extract i (bT s i)):=by
 intro t j r h hst;have hk:=yX hi;have hg:=yY hb;have hsz:(s.extract i (bT s i)).size=bT s i-i:=by rw[ByteArray.size_extract];omega
 have hr:At t (j+(s.extract i (bT s i)).data.toList.length) r:=h.app;have hl:(s.extract i (bT s i)).data.toList.length=bT s i-i:=hsz;rw[hl]at hr;have:=aaN (n:=bT s i-i) (At.WZ hk h) (by rw[hr.hd];exact hst) hb AF;rw[hsz];exact this
end
inductive Pc where
 |blank
 |text (w:BY)
 |hash (w:BY)
 |num (w:BY)
 |pct (w:BY)
 |dim (w u:BY)
 |at_ (w:BY)
 |ident (w:BY)
 |func (w:BY)
 |sign (c:UInt8)
 |com
def Pc.bytes:Pc->List UInt8
 |.blank=>[32]
 |.text w=>yw w
 |.hash w=>35::gZ w
 |.num w=>w.data.toList
 |.pct w=>w.data.toList++[37]
 |.dim w u=>w.data.toList++oJ u
 |.at_ w=>64::gZ w
 |.ident w=>gZ w
 |.func w=>gZ w++[40]
 |.sign c=>[c]
 |.com=>[47,42,42,47]
def Pc.tok:Pc->Option Tok
 |.blank=>some (Tok.k 1)
 |.text w=>some (Tok.w 2 (vZ w))
 |.hash w=>some (Tok.w 4 (vZ w))
 |.num w=>some (Tok.w 5 w)
 |.pct w=>some (Tok.w 6 w)
 |.dim w u=>some ⟨7,w,vZ u⟩
 |.at_ w=>some (Tok.w 10 (vZ w))
 |.ident w=>some (Tok.w 14 (vZ w))
 |.func w=>some (Tok.w 11 (vZ w))
 |.sign c=>some (Tok.w 15 (b1 c))
 |.com=>none
def lT:List UInt8:=[33,36,37,40,41,42,43,44,45,46,47,58,59,61,62,91,93,94,123,125,126]
def Pc.ok:Pc->Prop
 |.hash w=>0<w.size
 |.num w=>LX w
 |.pct w=>LX w
 |.dim w u=>LX w/\0<u.size
 |.at_ w=>0<w.size
 |.ident w=>0<w.size
 |.func w=>0<w.size
 |.sign c=>c∈lT
 |_=>True
def Pc.stop:Pc->List UInt8->Prop
 |.blank,r=>aO (jy r)=false
 |.hash _,r=>uG r
 |.num _,r=>nT (jy r)/\jy r≠37/\kK (jy r)=false/\jy r≠45/\jy r≠92
 |.dim _ _,r=>uG r
 |.at_ _,r=>uG r
 |.ident _,r=>uG r/\jy r≠40/\jy r≠62
 |.func w,r=>small (vZ w)=url->∃r',r=34::r'\/r=32::34::r'
 |.sign c,r=>(c=43->fG (jy r)=false/\jy r≠46)/\(c=46->fG (jy r)=false)/\(c=45->fG (jy r)=false/\jy r≠46/\kK (jy r)=false/\jy r≠45/\jy r≠92)/\(c=47->jy r≠42)
 |.com,r=>¬(jy r=47/\jy r.tail=42)
 |_,_=>True
theorem Jz{w:BY}(hw:0<w.size)(r:List UInt8):∃c l,gZ w++r=c::l/\((c.toNat:Int)=92\/(c.toNat:Int)=45\/kK (c.toNat:Int)=true):=by
 obtain⟨l,hl⟩:∃l,w.data.toList=l:=⟨_,rfl⟩;have hsz:w.size=l.length:=by rw[<-hl];rfl
 unfold gZ;rw[hl];match l,hsz with
 |[],hsz=>rw[hsz]at hw;exact absurd hw (Nat.lt_irrefl _)
 |c::l,_=>
  unfold ny;by_cases ho:dZ w 0 c=true
  .rw[if_pos ho];refine⟨c,_,rfl,?_⟩;rcases nS ho with h|h|h
   .exact .inr (.inr h)
   .exact absurd rfl h.2.1
   .rw[h.1];exact .inr (.inl rfl)
  .rw[if_neg ho];exact⟨92,_,rfl,.inl rfl⟩
theorem kW{s:BY}{i:Nat}(h:¬(pk s i=47/\pk s (i+1)=42)):com s i=i:=by
 unfold com;cases s.size with
 |zero=>rfl
 |succ f=>unfold Bv;rw[if_neg h]
theorem YZ{s:BY}{i:Nat}{l:List UInt8}(h:At s i l)(hi:pk s i ≠ -1):pk s (i+1)=jy l.tail:=by
 cases l with
 |nil=>exact absurd h.hd hi
 |cons c r=>exact h.tl.hd
theorem ads{s:BY}{i:Nat}{r:List UInt8}(h:At s i (47::42::42::47::r))(hr:¬(jy r=47/\jy r.tail=42)):com s i=i+4:=by
 have h4:At s (i+4) r:=At.app (a:=[47,42,42,47]) h;have e0:pk s i=47:=h.hd;have e1:pk s (i+1)=42:=h.tl.hd;have e2:pk s (i+2)=42:=h.tl.tl.hd;have e3:pk s (i+2+1)=47:=h.tl.tl.tl.hd;have hl2:=h.tl.tl.lt;have hstar:star s (i+2)=i+2:=by
  unfold star;cases s.size with
  |zero=>rfl
  |succ f=>unfold lY;rw[if_neg (fun hh=>hh.2 ⟨e2,e3⟩)]
 have hno:¬(pk s (i+4)=47/\pk s (i+4+1)=42):=fun hh=>hr ⟨by rw[<-h4.hd];exact hh.1,by rw[<-YZ h4 (by rw[hh.1];decide)];exact hh.2⟩;unfold com;obtain⟨f,hf⟩:∃f,s.size=f+1:=⟨s.size-1,by omega⟩;rw[hf];unfold Bv;rw[if_pos ⟨e0,e1⟩,hstar,if_neg (by omega)];cases f with
 |zero=>rfl
 |succ f=>unfold Bv;rw[if_neg hno]
theorem Y0{s:BY}{i:Nat}{r:List UInt8}(h:At s i (32::r))(hr:aO (jy r)=false):blk s i=i+1:=by
 have e0:pk s i=32:=h.hd;have e1:pk s (i+1)=jy r:=h.tl.hd;have hl:=h.lt;unfold blk;obtain⟨f,hf⟩:∃f,s.size=f+1:=⟨s.size-1,by omega⟩;rw[hf];unfold Ae;rw[e0,if_pos (by decide)];cases f with
 |zero=>rfl
 |succ f=>unfold Ae;rw[e1,hr];rfl
theorem SN{s:BY}{i:Nat}(h:aO (pk s i)=false):blk s i=i:=by
 unfold blk;cases s.size with
 |zero=>rfl
 |succ f=>unfold Ae;rw[h];rfl
theorem GH{c:Int}(h:fG c=true):aO c=false/\dD c=false/\c≠35/\c≠46/\ou c=false:=by have:=kM h;unfold aO dD ou;simp;omega
theorem Nv{s:BY}{i:Nat}(h:iO s i=true):aO (pk s i)=false/\dD (pk s i)=false/\pk s i≠35/\pk s i≠47:=by
 unfold iO mX at h;by_cases hs:ou (pk s i)=true
 .unfold ou at hs;unfold aO dD;simp at hs⊢;omega
 .rw[if_neg hs]at h;simp only[Bool.or_eq_true,Bool.and_eq_true,beq_iff_eq]at h;rcases h with h|h
  .have:=GH h;have:=kM h;refine⟨(GH h).1,?_,?_,?_⟩
   .exact(GH h).2.1
   .omega
   .omega
  .rw[h.1];decide
theorem yx{c:Int}(h:kK c=true\/c=45\/c=92):aO c=false/\dD c=false/\c≠35/\c≠64/\c≠60/\c≠46/\c≠43/\c≠47/\fG c=false:=by unfold kK at h;unfold aO dD fG;simp at h⊢;omega
theorem At.at{s:BY}{i:Nat}{a r:List UInt8}(h:At s i (a++r)){d:Nat}(hd:d<a.length):pk s (i+d)=((a[d]).toNat:Int):=by
 have h1:a=a.take d++a[d]::a.drop (d+1):=by rw[<-List.drop_eq_getElem_cons hd,List.take_append_drop]
 have h2:At s i (a.take d++(a[d]::a.drop (d+1)++r)):=by rw[<-List.append_assoc,<-h1];exact h
 have h3:=h2.app;rw[List.length_take,Nat.min_eq_left (by omega)]at h3;exact h3.hd
def kH(c:UInt8):Prop:=32<=c.toNat/\c.toNat<=126/\c.toNat≠60/\c.toNat≠62
theorem Nw:∀n,n<16->32<=(hexD n).toNat/\(hexD n).toNat<=126/\(hexD n).toNat≠60/\(hexD n).toNat≠62:=by decide
theorem aaO(c:UInt8):∀b∈WY c,kH b:=by
 have hc:=c.toNat_lt;intro b hb;unfold WY at hb;simp only[List.mem_cons,List.not_mem_nil,or_false]at hb;rcases hb with rfl|rfl|rfl|rfl
 .unfold kH;decide
 .exact Nw _ AF
 .exact Nw _ AF
 .unfold kH;decide
theorem zk(ok:Nat->UInt8->Bool)(hok:∀i c,ok i c=true->kH c):∀(l:List UInt8) (j:Nat),∀b∈ny ok j l,kH b
 |[],_,b,hb=>by simp[ny]at hb
 |c::l,j,b,hb=>by
  unfold ny at hb;rcases List.mem_append.1 hb with hb|hb
  .split at hb
   .rename_i ho;rw[List.mem_singleton.1 hb];exact hok j c ho
   .exact aaO c b hb
  .exact zk ok hok l (j+1) b hb
theorem FN{w:BY}{i:Nat}{c:UInt8}(h:dZ w i c=true):kH c:=by
 unfold dZ at h;unfold kH;split at h
 .rename_i hd;unfold oV at hd;simp at hd;omega
 .split at h
  .rename_i hc;rw[hc];decide
  .unfold oU at h;simp at h;rcases h with h|h
   .omega
   .rw[h];decide
theorem rP(w:BY):∀b∈gZ w,kH b:=zk _ (fun _ _ h=>FN h) _ _
theorem Xa(w:BY):∀b∈oJ w,kH b:=zk _ (fun _ _ h=>FN (Bool.and_eq_true_iff.1 h).1) _ _
theorem Xb(w:BY):∀b∈yw w,kH b:=by
 intro b hb;unfold yw at hb;simp only[List.mem_cons,List.mem_append,List.not_mem_nil,or_false]at hb;rcases hb with rfl|hb|rfl
 .unfold kH;decide
 .refine zk _ (fun _ c h=>?_) _ _ b hb;unfold jO at h;simp at h;refine⟨h.1.1,h.1.2,fun e=>h.2.1.2 (UInt8.toNat_inj.1 (by simpa using e)),fun e=>h.2.2 (UInt8.toNat_inj.1 (by simpa using e))⟩
 .unfold kH;decide
theorem adt{s w:BY}{i:Nat}{r:List UInt8}(hw:0<w.size)(h:At s i (gZ w++r)):iO s i=false:=by
 obtain⟨c,l,hc,hcc⟩:=Jz hw r;have hb:=Du hw h;have e:pk s i=(c.toNat:Int):=by rw[hc]at h;exact h.hd
 have hn:=yx (c:=pk s i) (by rw[e];exact hcc.elim (fun h=>.inr (.inr h)) (fun h=>h.elim (fun h=>.inr (.inl h)) .inl));unfold iO mX;by_cases hs:ou (pk s i)=true
 .rw[if_pos hs];have h45:pk s i=45:=by
   unfold ou at hs;simp at hs;omega
  unfold iG at hb;rw[if_pos h45]at hb;simp only[Bool.or_eq_true,beq_iff_eq]at hb;have hx:kK (pk s (i+1))=true\/pk s (i+1)=45\/pk s (i+1)=92:=by
   rcases hb with (hb|hb)|hb
   .exact .inl hb
   .exact .inr (.inl hb)
   .exact .inr (.inr (abW hb).1)
  have:=yx hx;rw[this.2.2.2.2.2.2.2.2];simp[this.2.2.2.2.2.1]
 .rw[if_neg hs,hn.2.2.2.2.2.2.2.2];simp[hn.2.2.2.2.2.1]
theorem adu{s w:BY}{i:Nat}{r:List UInt8}(hw:0<w.size)(hr:uG r)(h62:jy r≠62)(h:At s i (gZ w++r)):kL s i=false:=by
 have hl:0<(gZ w).length:=Nat.lt_of_lt_of_le hw (rO _ _ _);have hrr:=h.app.hd;have hmem:∀d,(hd:d<(gZ w).length)->pk s (i+d)≠62:=fun d hd e=>by rw[h.at hd]at e;have:=(rP w _ (List.getElem_mem hd)).2.2.2;omega
 cases hq:kL s i with
 |false=>rfl
 |true=>
  exfalso
  unfold kL at hq;simp only[Bool.and_eq_true,beq_iff_eq]at hq;rcases Nat.lt_trichotomy (gZ w).length 2 with hlt|he|hgt
  .have:(gZ w).length=1:=by omega
   rw[this,hq.1.2]at hrr;have h1:=hr.1;rw[<-hrr]at h1;exact absurd h1 (by decide)
  .rw[he,hq.2]at hrr;exact h62 hrr.symm
  .exact hmem 2 hgt hq.2
theorem JA:∀c∈lT,aO (c.toNat:Int)=false/\dD (c.toNat:Int)=false/\(c.toNat:Int)≠35/\(c.toNat:Int)≠60/\(c.toNat:Int)≠64/\kK (c.toNat:Int)=false/\(c.toNat:Int)≠92/\fG (c.toNat:Int)=false:=by decide
theorem aaP{s:BY}{i:Nat}{c:UInt8}{r:List UInt8}(hc:c∈lT)(hs:(Pc.sign c).stop r)(h:At s i (c::r)):token s i=(Tok.w 15 (b1 c),i+1):=by
 have e:pk s i=(c.toNat:Int):=h.hd;have e1:pk s (i+1)=jy r:=h.tl.hd;obtain⟨s1,s2,s3,s4⟩:=hs;obtain⟨a1,a2,a3,a4,a5,a6,a7,a8⟩:=JA c hc;have hnum:iO s i=false:=by
  unfold iO mX;rw[e];by_cases h43:c=43
  .subst h43;rw[if_pos (by decide),e1,(s1 rfl).1];simp[(s1 rfl).2]
  .by_cases h45:c=45
   .subst h45;rw[if_pos (by decide),e1,(s3 rfl).1];simp[(s3 rfl).2.1]
   .have hns:¬ou (c.toNat:Int)=true:=by
     unfold ou;simp;exact⟨fun h=>h43 (UInt8.toNat_inj.1 (by simpa using(show c.toNat=43 by omega))),fun h=>h45 (UInt8.toNat_inj.1 (by simpa using(show c.toNat=45 by omega)))⟩
    rw[if_neg hns,e,a8,e1];by_cases h46:c=46
    .subst h46;rw[s2 rfl];rfl
    .have:(c.toNat:Int)≠46:=fun h=>h46 (UInt8.toNat_inj.1 (by simpa using(show c.toNat=46 by omega)));simp[this]
 have amT:iG s i=false:=by
  unfold iG;rw[e];by_cases h45:c=45
  .subst h45;rw[if_pos (by decide)];unfold kY;rw[e1,(s3 rfl).2.2.1];simp[(s3 rfl).2.2.2.1,(s3 rfl).2.2.2.2]
  .rw[if_neg (fun h=>h45 (UInt8.toNat_inj.1 (by simpa using(show c.toNat=45 by omega)))),a6];unfold kY;rw[e];simp[a7]
 have hs4:kG s i=false:=by unfold kG;rw[e];simp[a4]
 have hs3:kL s i=false:=by
  unfold kL;rw[e,e1];by_cases h45:c=45
  .subst h45;simp[(s3 rfl).2.2.2.1]
  .have:(c.toNat:Int)≠45:=fun h=>h45 (UInt8.toNat_inj.1 (by simpa using(show c.toNat=45 by omega)));simp[this]
 unfold token;rw[e,a1,a2,hnum,hs4,hs3,amT,if_neg (by simp),if_neg (by simp),if_neg (fun h=>a3 h.1),if_neg (by simp),if_neg (by simp),if_neg (by simp),if_neg (fun h=>a5 h.1),if_neg (by simp),h.one]
theorem At.extract{s a:BY}{i:Nat}{r:List UInt8}(h:At s i (a.data.toList++r)):s.extract i (i+a.size)=a:=by
 apply ByteArray.ext
 apply Array.toList_inj.1
 have hl:a.size=a.data.toList.length:=rfl;rw[ByteArray.data_extract,Array.toList_extract,List.extract_eq_take_drop,h.2,hl];simp
theorem JB{s w:BY}{i:Nat}{r:List UInt8}(hw:LX w)(hr:nT (jy r))(h:At s i (w.data.toList++r)):token s i=numeric s i/\bT s i=i+w.size/\s.extract i (bT s i)=w/\At s (i+w.size) r/\com s i=i:=by
 obtain⟨hb,he⟩:=hw s i r h hr;have hf:=Nv hb;refine⟨?_,he,?_,h.app,kW fun hh=>hf.2.2.2 hh.1⟩
 .unfold token;rw[hf.1,hf.2.1,hb,if_neg (by simp),if_neg (by simp),if_neg (fun hh=>hf.2.2.1 hh.1),if_pos rfl]
 .rw[he];exact h.extract
theorem aaQ{s:BY}{i:Nat}{r:List UInt8}(h:At s i r)(h1:kK (jy r)=false)(h2:jy r≠45)(h3:jy r≠92):iG s i=false:=by unfold iG;rw[h.hd,if_neg h2,h1];unfold kY;rw[h.hd];simp[h3]
theorem Xc{s w:BY}{i:Nat}{r:List UInt8}(hw:0<w.size)(h:At s i (gZ w++r)):aO (pk s i)=false/\dD (pk s i)=false/\pk s i≠35/\pk s i≠64/\pk s i≠60/\pk s i≠47:=by
 obtain⟨c,l,hc,hcc⟩:=Jz hw r;have e:pk s i=(c.toNat:Int):=by rw[hc]at h;exact h.hd
 have hn:=yx (c:=pk s i) (by rw[e];exact hcc.elim (fun h=>.inr (.inr h)) (fun h=>h.elim (fun h=>.inr (.inl h)) .inl));exact⟨hn.1,hn.2.1,hn.2.2.1,hn.2.2.2.1,hn.2.2.2.2.1,hn.2.2.2.2.2.2.2.1⟩
theorem JC{s w:BY}{i:Nat}{r:List UInt8}(hw:0<w.size)(hr:uG r)(h62:jy r≠62)(h:At s i (gZ w++r)):token s i=named s i/\name s i=(vZ w,i+(gZ w).length)/\At s (i+(gZ w).length) r/\com s i=i:=by
 have hf:=Xc hw h;refine⟨?_,ED hr h,h.app,kW fun hh=>hf.2.2.2.2.2 hh.1⟩;have h4:kG s i=false:=by unfold kG;simp[hf.2.2.2.2.1]
 unfold token;rw[hf.1,hf.2.1,adt hw h,h4,adu hw hr h62 h,Du hw h,if_neg (by simp),if_neg (by simp),if_neg (fun hh=>hf.2.2.1 hh.1),if_neg (by simp),if_neg (by simp),if_neg (by simp),if_neg (fun hh=>hf.2.2.2.1 hh.1),if_pos rfl]
theorem adv{w:BY}(hw:0<w.size)(r:List UInt8):nT (jy (oJ w++r))/\jy (oJ w++r)≠37:=by
 obtain⟨l,hl⟩:∃l,w.data.toList=l:=⟨_,rfl⟩;have hsz:w.size=l.length:=by rw[<-hl];rfl
 unfold oJ;rw[hl];match l,hsz with
 |[],hsz=>rw[hsz]at hw;exact absurd hw (Nat.lt_irrefl _)
 |c::l,_=>
  unfold ny;by_cases ho:(dZ w 0 c&&!((0:Nat)==0&&(c==101||c==69)))=true
  .rw[if_pos ho];show nT (c.toNat:Int)/\(c.toNat:Int)≠37;obtain⟨h1,h2⟩:=Bool.and_eq_true_iff.1 ho;simp at h2;have e1:c.toNat≠101:=fun e=>h2.1 (UInt8.toNat_inj.1 (by simpa using e));have e2:c.toNat≠69:=fun e=>h2.2 (UInt8.toNat_inj.1 (by simpa using e));rcases nS h1 with h|h|h
   .have hn:=yx (.inl h);unfold kK at h;simp at h;exact⟨⟨hn.2.2.2.2.2.2.2.2,hn.2.2.2.2.2.1,by omega,by omega⟩,by omega⟩
   .exact absurd rfl h.2.1
   .rw[h.1];unfold nT;decide
  .rw[if_neg ho];show nT (92:Int)/\(92:Int)≠37;unfold nT;decide
theorem Xd{s:BY}{i:Nat}{r:List UInt8}{p:Pc}(hp:p.ok)(hs:p.stop r)(hne:p≠.com)(h:At s i (p.bytes++r)):∃t,p.tok=some t/\token s i=(t,i+p.bytes.length)/\com s i=i:=by
 match p,hp,hs,hne,h with
 |.blank,_,hs,_,h=>have h0:At s i (32::r):=h;have e:pk s i=32:=h0.hd;refine⟨_,rfl,?_,kW fun hh=>by rw[e]at hh;exact absurd hh.1 (by decide)⟩;unfold token;rw[e,if_pos (by decide),Y0 h0 hs];rfl
 |.text w,_,_,_,h=>refine⟨_,rfl,aaM h,kW fun hh=>?_⟩;have e:pk s i=34:=At.hd (l:=34::_) h;rw[e]at hh;exact absurd hh.1 (by decide)
 |.hash w,hw,hs,_,h=>have h0:At s i (35::(gZ w++r)):=h;have e:pk s i=35:=h0.hd;refine⟨_,rfl,?_,kW fun hh=>by rw[e]at hh;exact absurd hh.1 (by decide)⟩;unfold token;rw[e,if_neg (by decide),if_neg (by decide),if_pos ⟨rfl,xu (Du hw h0.tl)⟩,ED hs h0.tl];refine Prod.ext rfl ?_;simp[Pc.bytes];omega
 |.num w,hw,hs,_,h=>obtain⟨h1,h2,h3,h4,h5⟩:=JB hw hs.1 h;refine⟨_,rfl,?_,h5⟩;rw[h1];unfold numeric;simp only[h2];rw[if_neg (by rw[h4.hd];exact hs.2.1),aaQ h4 hs.2.2.1 hs.2.2.2.1 hs.2.2.2.2,if_neg (by simp),<-h2,h3,h2];rfl
 |.pct w,hw,_,_,h=>
  have h0:At s i (w.data.toList++37::r):=by have:At s i (w.data.toList++[37]++r):=h;simpa using this
  obtain⟨h1,h2,h3,h4,h5⟩:=JB (r:=37::r) hw (show nT (37:Int) by unfold nT;decide) h0;refine⟨_,rfl,?_,h5⟩;rw[h1];unfold numeric;simp only[h2];rw[if_pos (by rw[h4.hd];rfl),<-h2,h3,h2];refine Prod.ext rfl ?_;have hl:w.size=w.data.toList.length:=rfl;show _=i+(w.data.toList++[37]).length;simp only[List.length_append,List.length_cons,List.length_nil];omega
 |.dim w u,hw,hs,_,h=>
  have h0:At s i (w.data.toList++(oJ u++r)):=by have:At s i (w.data.toList++oJ u++r):=h;simpa using this
  have hu:nT (jy (oJ u++r))/\jy (oJ u++r)≠37:=adv hw.2 r;obtain⟨h1,h2,h3,h4,h5⟩:=JB hw.1 hu.1 h0;refine⟨_,rfl,?_,h5⟩;rw[h1];unfold numeric;simp only[h2];rw[if_neg (by rw[h4.hd];exact hu.2),adq hw.2 h4,if_pos rfl,<-h2,h3,h2,aaK hs h4];refine Prod.ext rfl ?_;have hl:w.size=w.data.toList.length:=rfl;show _=i+(w.data.toList++oJ u).length;rw[List.length_append];show i+w.size+(oJ u).length=_;omega
 |.at_ w,hw,hs,_,h=>
  have h0:At s i (64::(gZ w++r)):=h;have e:pk s i=64:=h0.hd;refine⟨_,rfl,?_,kW fun hh=>by rw[e]at hh;exact absurd hh.1 (by decide)⟩;have hnum:iO s i=false:=by unfold iO mX;rw[e,if_neg (by decide),e];rfl
  have h4:kG s i=false:=by unfold kG;rw[e];rfl
  have h3:kL s i=false:=by unfold kL;rw[e];rfl
  unfold token;rw[e,hnum,h4,h3,if_neg (by decide),if_neg (by decide),if_neg (fun hh=>absurd hh.1 (by decide)),if_neg (by simp),if_neg (by simp),if_neg (by simp),if_pos ⟨rfl,Du hw h0.tl⟩,ED hs h0.tl];refine Prod.ext rfl ?_;simp[Pc.bytes];omega
 |.ident w,hw,hs,_,h=>obtain⟨h1,h2,h3,h5⟩:=JC hw hs.1 hs.2.2 h;refine⟨_,rfl,?_,h5⟩;rw[h1];unfold named;simp only[h2];rw[if_neg (by rw[h3.hd];exact hs.2.1)];rfl
 |.func w,hw,hs,_,h=>
  have h0:At s i (gZ w++40::r):=by have:At s i (gZ w++[40]++r):=h;simpa using this
  obtain⟨h1,h2,h3,h5⟩:=JC (r:=40::r) hw ⟨show lX 40=false by decide,show(40:Int)≠92 by decide⟩ (show(40:Int)≠62 by decide) h0;refine⟨_,rfl,?_,h5⟩;rw[h1];unfold named;simp only[h2];have e:pk s (i+(gZ w).length)=40:=h3.hd;rw[if_pos e,if_neg]
  .refine Prod.ext rfl ?_;simp[Pc.bytes];omega
  .rintro ⟨hu,hq⟩;obtain⟨r',hr|hr⟩:=hs hu
   .have h6:=h3.tl;rw[hr]at h6;have e6:pk s (i+(gZ w).length+1)=34:=h6.hd;rw[SN (by rw[e6];decide),e6]at hq;exact absurd hq (by decide)
   .have h6:=h3.tl;rw[hr]at h6;have e6:pk s (i+(gZ w).length+1+1)=34:=h6.tl.hd;rw[Y0 h6 (show aO 34=false by decide),e6]at hq;exact absurd hq (by decide)
 |.sign c,hc,hs,_,h=>have h0:At s i (c::r):=h;refine⟨_,rfl,aaP hc hs h0,kW fun hh=>?_⟩;have e:pk s i=(c.toNat:Int):=h0.hd;have e1:pk s (i+1)=jy r:=h0.tl.hd;rw[e,e1]at hh;exact hs.2.2.2 (UInt8.toNat_inj.1 (by simpa using(show c.toNat=47 by omega))) hh.2
 |.com,_,_,hne,_=>exact absurd rfl hne
def flat:List Pc->List UInt8
 |[]=>[]
 |p::r=>p.bytes++flat r
theorem aN:∀(a b:List Pc),flat (a++b)=flat a++flat b
 |[],_=>rfl
 |p::r,b=>by show p.bytes++flat (r++b)=p.bytes++flat r++flat b;rw[aN r b,List.append_assoc]
def Good:List Pc->List UInt8->Prop
 |[],_=>True
 |p::l,r=>p.ok/\p.stop (flat l++r)/\Good l r
theorem Good.append:∀ {a b:List Pc}{r:List UInt8},Good a (flat b++r)->Good b r->Good (a++b) r
 |[],_,_,_,h=>h
 |p::l,b,r,h,h'=>⟨h.1,by show p.stop (flat (l++b)++r);rw[aN,List.append_assoc];exact h.2.1,Good.append h.2.2 h'⟩
def dA(l:List Pc):List Tok:=l.filterMap Pc.tok
theorem cO(a b:List Pc):dA (a++b)=dA a++dA b:=List.filterMap_append
theorem Pc.pos{p:Pc}(h:p.ok):0<p.bytes.length:=by
 match p,h with
 |.blank,_=>exact Nat.one_pos
 |.text w,_=>simp[Pc.bytes,yw]
 |.hash w,_=>simp[Pc.bytes]
 |.num w,h=>
  show 0<w.data.toList.length;cases hl:w.data.toList with
  |cons c l=>simp
  |nil=>
   exfalso
   have:=(h ByteArray.empty 0 [] ⟨Nat.zero_le _,by rw[hl];rfl⟩ (by unfold nT jy;decide)).1;revert this;decide
 |.pct w,_=>simp[Pc.bytes]
 |.dim w u,h=>have:=rO (fun i c=>dZ u i c&&!(i==0&&(c==101||c==69))) u.data.toList 0;have h2:0<u.data.toList.length:=h.2;simp only[Pc.bytes,List.length_append,oJ];omega
 |.at_ w,_=>simp[Pc.bytes]
 |.ident w,h=>have:=rO (dZ w) w.data.toList 0;have h2:0<w.data.toList.length:=h;simp only[Pc.bytes,gZ];omega
 |.func w,_=>simp[Pc.bytes]
 |.sign c,_=>simp[Pc.bytes]
 |.com,_=>simp[Pc.bytes]
def aaR(t:Tok):Prop:=t.kind=5\/t.kind=6\/t.kind=7->LX t.word
def adw(r:List Tok):Prop:=∃t r',(t.kind=2\/t.kind=3)/\(r=t::r'\/∃b,b.kind=1/\r=b::t::r')
def uT:List Tok->Prop
 |[]=>True
 |t::r=>(aaR t/\(t.kind=11->small t.word=url->adw r))/\uT r
theorem Y3:∀(l:List Tok) (k:Nat),uT l->uT (l.drop k)
 |[],k,_=>by simp[uT]
 |t::r,0,h=>h
 |t::r,k+1,h=>Y3 r k h.2
theorem SS{s:BY}{i:Nat}(hi:i<=s.size)(h:iO s i=true):aaR (numeric s i).1/\(numeric s i).1.kind≠11:=by
 have hw:=adr hi h;unfold numeric;simp only;split
 .exact⟨fun _=>hw,by simp[Tok.w]⟩
 .split
  .exact⟨fun _=>hw,by simp⟩
  .exact⟨fun _=>hw,by simp[Tok.w]⟩
theorem aaS{s:BY}{i:Nat}(hi:i<=s.size):aaR (token s i).1/\((token s i).1.kind=11->token s i=named s i):=by
 unfold token;split
 .exact⟨fun h=>by simp[Tok.k]at h,fun h=>by simp[Tok.k]at h⟩
 .split
  .have:=(lu s (pk s i) s.size (i+1) ByteArray.empty).1;unfold txt;exact⟨fun h=>by omega,fun h=>by omega⟩
  .split
   .exact⟨fun h=>by simp[Tok.w]at h,fun h=>by simp[Tok.w]at h⟩
   .split
    .rename_i h;have:=SS hi h;exact⟨this.1,fun h=>absurd h this.2⟩
    .split
     .exact⟨fun h=>by simp[Tok.k]at h,fun h=>by simp[Tok.k]at h⟩
     .split
      .exact⟨fun h=>by simp[Tok.k]at h,fun h=>by simp[Tok.k]at h⟩
      .split
       .exact⟨fun h=>by simp[Tok.w]at h,fun h=>by simp[Tok.w]at h⟩
       .split
        .refine⟨fun h=>?_,fun _=>rfl⟩;exfalso
         unfold named at h;simp only at h;split at h
         .split at h
          .unfold link at h;have:=(mQ s s.size (blk s ((name s i).2+1)) ByteArray.empty).1;omega
          .simp[Tok.w]at h
         .simp[Tok.w]at h
        .exact⟨fun h=>by simp[Tok.w]at h,fun h=>by simp[Tok.w]at h⟩
theorem aaT{s:BY}{i:Nat}(h:(named s i).1.kind=11)(hu:small (named s i).1.word=url):(named s i).2=(name s i).2+1/\dD (pk s (blk s ((name s i).2+1)))=true:=by
 unfold named at h hu⊢;simp only at h hu⊢;by_cases Gt:pk s (name s i).2=40
 .rw[if_pos Gt]at h hu⊢;by_cases hq:small (name s i).1=url/\dD (pk s (blk s ((name s i).2+1)))=false
  .rw[if_pos hq]at h;unfold link at h;have:=(mQ s s.size (blk s ((name s i).2+1)) ByteArray.empty).1;omega
  .rw[if_neg hq]at hu⊢;refine⟨rfl,?_⟩;by_cases hh:dD (pk s (blk s ((name s i).2+1)))=true
   .exact hh
   .exact absurd ⟨hu,by simpa using hh⟩ hq
 .rw[if_neg Gt]at h;simp[Tok.w]at h
theorem aaU{s:BY}{i:Nat}(h:dD (pk s i)=true):((token s i).1.kind=2\/(token s i).1.kind=3)/\com s i=i:=by
 have hb:aO (pk s i)=false:=by unfold dD at h;unfold aO;simp at h⊢;omega
 refine⟨?_,kW fun hh=>by rw[hh.1]at h;exact absurd h (by decide)⟩;unfold token;rw[hb,if_neg (by simp),if_pos h];exact(lu s (pk s i) s.size (i+1) ByteArray.empty).1
theorem aaV{s:BY}{j f:Nat}(hq:dD (pk s (blk s j))=true)(hf:s.size<=j+f):adw (tokF s f (com s j)):=by
 have hge:=Ee s j;have hlt:blk s j<s.size:=dY (abU hq);have hqt:=aaU hq;by_cases hb:aO (pk s j)=true
 .have hgt:=Vp hb;have hc:com s j=j:=kW fun hh=>by rw[hh.1]at hb;exact absurd hb (by decide)
  obtain⟨f,rfl⟩:∃g,f=g+1:=⟨f-1,by omega⟩;obtain⟨f,rfl⟩:∃g,f=g+1:=⟨f-1,by omega⟩;have ht:token s j=(Tok.k 1,blk s j):=by unfold token;rw[if_pos hb]
  rw[hc];unfold tokF;rw[if_neg (by omega),ht];simp only;rw[hqt.2];unfold tokF;rw[if_neg (by omega)];exact⟨_,_,hqt.1,.inr ⟨Tok.k 1,rfl,rfl⟩⟩
 .have e:=SN (s:=s) (i:=j) (by simpa using hb);rw[e]at hqt hlt;obtain⟨f,rfl⟩:∃g,f=g+1:=⟨f-1,by omega⟩;rw[hqt.2];unfold tokF;rw[if_neg (by omega)];exact⟨_,_,hqt.1,.inl rfl⟩
theorem adx{s:BY}:∀f i,s.size<=i+f->uT (tokF s f i)
 |0,i,_=>by simp[tokF,uT]
 |f+1,i,h=>by
  unfold tokF;by_cases hi:s.size<=i
  .rw[if_pos hi];simp[uT]
  .rw[if_neg hi];have hgt:=xA (s:=s) (i:=i) AF;have hle:=xB (s:=s) (i:=i) AF;have hcg:=Vq hle;have hn:=aaS (s:=s) (i:=i) AF;refine⟨⟨hn.1,fun hk hu=>?_⟩,adx f _ AF⟩;have e:=hn.2 hk;rw[e]at hk hu;obtain⟨h2,h3⟩:=aaT hk hu;rw[e,h2]at hgt⊢;exact aaV h3 AF
theorem ajy(s:BY):uT (toks s):=adx _ _ AF
def Y4(k:List Nd):Prop:=∃n r',(n.t.kind=2\/n.t.kind=3)/\(k=n::r'\/∃b,b.t.kind=1/\k=b::n::r')
mutual
def uN:Nd->Prop
 |.mk t k=>(aaR t/\(t.kind=11->small t.word=url->Y4 k))/\uL k
def uL:List Nd->Prop
 |[]=>True
 |n::r=>uN n/\uL r
end
theorem ajz(n:Nd):uN n↔(aaR n.t/\(n.t.kind=11->small n.t.word=url->Y4 n.kids))/\uL n.kids:=by cases n;simp[uN]
theorem OU:∀(l:List Nd),uL l↔∀n∈l,uN n
 |[]=>by simp[uL]
 |m::r=>by simp[uL,OU r]
theorem OV{a b:List Nd}(h:uL b)(hs:∀n∈a,n∈b):uL a:=(OU a).2 fun n hn=>(OU b).1 h n (hs n hn)
theorem JD{t:Tok}(h:t.kind≠15)(e:BY):¬(e≠aA/\au t e=true):=fun hh=>by have:=hh.2;unfold au at this;simp[h]at this
theorem wu{t:Tok}(h:t.kind≠15)(h':t.kind≠11):closing t=aA:=by unfold closing;rw[if_neg h',if_neg h]
theorem sU{t:Tok}(h:closing t=aA)(r:List Tok):inside t r=([],r):=by unfold inside;rw[if_pos h]
theorem aaW{e:BY}{ts:List Tok}(h:adw ts):Y4 (kids e ts).1:=by
 obtain⟨t,r',ht,h|⟨b,hb,h⟩⟩:=h
 .rw[h,iy (JD (by omega) e),sU (wu (by omega) (by omega))];exact⟨.mk t [],_,ht,.inl rfl⟩
 .rw[h,iy (JD (by omega) e),sU (wu (by omega) (by omega)),iy (JD (by omega) e),sU (wu (by omega) (by omega))];exact⟨.mk t [],_,ht,.inr ⟨.mk b [],hb,rfl⟩⟩
theorem ajA(n:Nat):∀(e:BY) (ts:List Tok),ts.length<=n->uT ts->uL (kids e ts).1:=by
 induction n with
 |zero=>intro e ts h _;obtain rfl:ts=[]:=List.eq_nil_of_length_eq_zero AF;simp[jB,uL]
 |succ n ih=>
  intro e ts h hok;cases ts with
  |nil=>simp[jB,uL]
  |cons t r=>
   simp only[List.length_cons]at h;by_cases hc:e≠aA/\au t e=true
   .simp[qX hc,uL]
   .rw[iy hc];have hl:=qW t r;obtain⟨k,hk,hk2⟩:=Fb t r;have h1:uL (inside t r).1:=by
     unfold inside;split
     .simp[uL]
     .exact ih _ r AF hok.2
    have h2:uL (kids e (inside t r).2).1:=ih e _ AF (by rw[hk2];exact Y3 _ _ hok.2);refine⟨⟨⟨hok.1.1,fun hk hu=>?_⟩,h1⟩,h2⟩;have hh:=hok.1.2 hk hu;unfold inside;rw[if_neg (by unfold closing;rw[if_pos hk];decide)];exact aaW hh
theorem agF(s:BY):uL (bH s):=ajA _ _ _ (Nat.le_refl _) (ajy _)
