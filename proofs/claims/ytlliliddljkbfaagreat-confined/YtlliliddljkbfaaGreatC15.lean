import Derived.Test.YtlliliddljkbfaaGreatC14
set_option maxHeartbeats 64000000
set_option maxRecDepth 100000
namespace Go.Proofs.YtlliliddljkbfaaGreat
open Go.RowKit Sp
structure uz(z:Nat)(t:Tok):Prop where
 word:t.word.size<=z
 unit:t.unit.size<=z
 kind:Qj t=true
theorem uz.k(z:Nat){n:Int}(h:1<=n/\n<=15):uz z (Tok.k n):=⟨by simp[Tok.k],by simp[Tok.k],by simp[Qj,Tok.k,h.1,h.2]⟩
theorem uz.w{z:Nat}{n:Int}{x:BY}(h:1<=n/\n<=15)(hx:x.size<=z):uz z (Tok.w n x):=⟨hx,by simp[Tok.w],by simp[Qj,Tok.w,h.1,h.2]⟩
theorem Jo{t:Tok}{n:Int}(h:t.kind=n)(h1:1<=n/\n<=15):Qj t=true:=by unfold Qj;rw[h];simp[h1.1,h1.2]
theorem aaF{s:BY}{i:Nat}(hi:i<s.size)(h:iO s i=true):uz s.size (numeric s i).1:=by
 have h1:=yY h;have h2:=yX (s:=s) (i:=i) oo;have hz:(s.extract i (bT s i)).size=bT s i-i:=by simp;omega
 unfold numeric;simp only;by_cases h37:pk s (bT s i)=37
 .rw[if_pos h37];exact uz.w oo (by rw[hz];omega)
 rw[if_neg h37];by_cases hb:iG s (bT s i)=true
 .rw[if_pos hb];have hn:=sO s (bT s i);exact⟨by rw[hz];omega,hn,Jo (n:=7) rfl oo⟩
 .rw[if_neg hb];exact uz.w oo (by rw[hz];omega)
theorem agw{s:BY}{i:Nat}:uz s.size (named s i).1:=by
 have hn:=sO s i;unfold named;simp only;split
 .split
  .have h1:=vI s s.size (blk s ((name s i).2+1)) ByteArray.empty;have h2:=mQ s s.size (blk s ((name s i).2+1)) ByteArray.empty;simp at h1;unfold link;refine⟨oo,by rw[h2.2];simp,?_⟩;rcases h2.1 with e|e
   .exact Jo e oo
   .exact Jo e oo
  .exact uz.w oo hn
 .exact uz.w oo hn
theorem agx{s:BY}{i:Nat}(hi:i<s.size):uz s.size (token s i).1:=by
 unfold token;split
 .exact uz.k _ oo
 split
 .have h1:=qK s (pk s i) s.size (i+1) ByteArray.empty;have h2:=lu s (pk s i) s.size (i+1) ByteArray.empty;simp at h1;unfold txt;refine⟨oo,by rw[h2.2];simp,?_⟩;rcases h2.1 with e|e
  .exact Jo e oo
  .exact Jo e oo
 split
 .exact uz.w oo (sO s _)
 split
 .exact aaF hi ‹_›
 split
 .exact uz.k _ oo
 split
 .exact uz.k _ oo
 split
 .exact uz.w oo (sO s _)
 split
 .exact agw
 .have:=iQ hi;exact uz.w oo oo
theorem ac8{s:BY}:∀f i,i<=s.size->∀t∈tokF s f i,uz s.size t
 |0,_,_,t,h=>by simp[tokF]at h
 |f+1,i,hi,t,h=>by
  unfold tokF at h;by_cases h0:s.size<=i
  .rw[if_pos h0]at h;simp at h
  .rw[if_neg h0]at h;rcases List.mem_cons.1 h with e|e
   .rw[e];exact agx oo
   .exact ac8 f _ (Af (xB oo)) t e
theorem ac9(s:BY):∀f i,(tokF s f i).length<=f
 |0,_=>by simp[tokF]
 |f+1,i=>by
  unfold tokF;split
  .simp
  .have:=ac9 s f (com s (token s i).2);simp only[List.length_cons];omega
theorem ada(s:BY):∀t∈toks s,uz s.size t:=ac8 _ _ (Af (Nat.zero_le _))
theorem WM(s:BY):(toks s).length<=s.size:=ac9 _ _ _
mutual
def gN:Nd->Prop
 |.mk t k=>dI t/\Qj t=true/\(closing t=aA->k=[])/\gL k
def gL:List Nd->Prop
 |[]=>True
 |n::r=>gN n/\gL r
end
theorem Ba(n:Nd):gN n↔dI n.t/\Qj n.t=true/\(closing n.t=aA->n.kids=[])/\gL n.kids:=by cases n;simp[gN]
theorem yh:∀(l:List Nd),gL l↔∀n∈l,gN n
 |[]=>by simp[gL]
 |m::r=>by simp[gL,yh r]
theorem qw{a b:List Nd}(h:gL b)(hs:∀n∈a,n∈b):gL a:=(yh a).2 fun n hn=>(yh b).1 h n (hs n hn)
mutual
theorem alu:∀(n:Nd),gN n->okN n
 |.mk t k,h=>by simp only[gN]at h;simp only[okN];exact⟨h.1,Sm k h.2.2.2⟩
theorem Sm:∀(l:List Nd),gL l->gu l
 |[],_=>by simp[gu]
 |n::r,h=>by simp only[gL]at h;exact⟨alu n h.1,Sm r h.2⟩
end
mutual
theorem alv:∀(n:Nd),gN n->Qz (fun t=>!Qj t) n=false
 |.mk t k,h=>by simp only[gN]at h;unfold Qz;rw[WO k h.2.2.2,h.2.1];rfl
theorem WO:∀(l:List Nd),gL l->jg (fun t=>!Qj t) l=false
 |[],_=>by unfold jg;rfl
 |n::r,h=>by simp only[gL]at h;unfold jg;rw[alv n h.1,WO r h.2];rfl
end
theorem aio{l:List Nd}(h:gL l):OJ l:=WO l h
theorem ajt(n:Nat):∀(e:BY) (ts:List Tok),ts.length<=n->(∀t∈ts,dI t/\Qj t=true)->gL (kids e ts).1:=by
 induction n with
 |zero=>intro e ts h _;obtain rfl:ts=[]:=List.eq_nil_of_length_eq_zero oo;simp[jB,gL]
 |succ n ih=>
  intro e ts h hok;cases ts with
  |nil=>simp[jB,gL]
  |cons t r=>
   simp only[List.length_cons]at h;by_cases hc:e≠aA/\au t e=true
   .simp[qX hc,gL]
   .rw[iy hc];have hr:∀t∈r,dI t/\Qj t=true:=fun x hx=>hok x (by simp[hx]);have hl:=qW t r;obtain⟨k,hk,hk2⟩:=Fb t r;have h1:gL (inside t r).1:=by
     unfold inside;split
     .simp[gL]
     .exact ih _ r oo hr
    have h3:closing t=aA->(inside t r).1=[]:=by intro e;unfold inside;rw[if_pos e]
    have h2:gL (kids e (inside t r).2).1:=ih e _ oo fun x hx=>hr x (by rw[hk2]at hx;exact List.mem_of_mem_drop hx);have h0:=hok t Ab;simp only[gL,gN];exact⟨⟨h0.1,h0.2,h3,h1⟩,h2⟩
def twz:List Tok->Nat
 |[]=>0
 |t::r=>4*t.word.size+4*t.unit.size+16+twz r
theorem aip{z:Nat}:∀(ts:List Tok),(∀t∈ts,uz z t)->twz ts<=ts.length*(8*z+16)
 |[],_=>by simp[twz]
 |t::r,h=>by have ih:=aip r fun x hx=>h x (by simp[hx]);have h0:=h t Ab;have:=h0.word;have:=h0.unit;simp only[twz,List.length_cons,Nat.add_mul,Nat.one_mul];omega
theorem agy(n:Nat):∀(e:BY) (ts:List Tok),ts.length<=n->dL (kids e ts).1+twz (kids e ts).2<=twz ts:=by
 induction n with
 |zero=>intro e ts h;obtain rfl:ts=[]:=List.eq_nil_of_length_eq_zero oo;simp[jB,dL,twz]
 |succ n ih=>
  intro e ts h;cases ts with
  |nil=>simp[jB,dL,twz]
  |cons t r=>
   simp only[List.length_cons]at h;by_cases hc:e≠aA/\au t e=true
   .rw[qX hc];simp only[dL,twz];omega
   .rw[iy hc];have hl:=qW t r;have h1:dL (inside t r).1+twz (inside t r).2<=twz r:=by
     unfold inside;split
     .simp[dL]
     .exact ih _ r oo
    have h2:=ih e (inside t r).2 oo;simp only[dL,Cc,twz];omega
theorem Di{s:BY}(hs:s.size<=600):gL (bH s)/\dL (bH s)<=4000000:=by have hc:=oZ s;have h1:∀t∈toks (clean s),dI t/\Qj t=true:=fun t ht=>⟨Oz oo t ht,(ada _ t ht).kind⟩;refine⟨ajt _ _ _ nl h1,?_⟩;have h2:=agy _ aA (toks (clean s)) nl;have h3:=aip (z:=600) (toks (clean s)) (fun t ht=>by have:=ada _ t ht;exact⟨by have:=this.word;omega,by have:=this.unit;omega,this.kind⟩);have h4:=WM (clean s);have h5:(toks (clean s)).length*(8*600+16)<=600*4816:=Nat.mul_le_mul oo oo;unfold bH nodes;omega
theorem gY(n:Nd):Cc n=4*n.t.word.size+4*n.t.unit.size+16+dL n.kids:=by obtain⟨t,k⟩:=n;unfold Cc;rfl
theorem bW(n:Nd)(r:List Nd):dL (n::r)=Cc n+dL r:=by conv=>lhs;unfold dL
theorem lG:dL []=0:=by unfold dL;rfl
theorem vY:∀(a b:List Nd),dL (a++b)=dL a+dL b
 |[],b=>by simp[dL]
 |n::r,b=>by rw[List.cons_append,bW,bW,vY r b];omega
theorem OL:∀(a:List Nd),dL a.reverse=dL a
 |[]=>rfl
 |n::r=>by rw[List.reverse_cons,vY,OL r,bW,bW,lG];omega
theorem uD:∀(l:List Nd),dL (aH l)<=dL l
 |[]=>by unfold aH;exact Nat.le_refl _
 |n::r=>by
  unfold aH;split
  .have:=uD r;rw[bW];omega
  .exact Nat.le_refl _
theorem kU(l:List Nd):dL (bare l)<=dL l:=by unfold bare lJ;rw[OL];have h1:=uD (aH l).reverse;have h2:=uD l;rw[OL]at h1;omega
theorem ku:∀(l:List Nd) (n:Nd),n∈aH l->n∈l
 |[],n,h=>h
 |m::r,n,h=>by
  unfold aH at h;split at h
  .exact List.mem_cons_of_mem _ (ku r n h)
  .exact h
theorem nP(l:List Nd)(n:Nd)(h:n∈bare l):n∈l:=by unfold bare lJ at h;rw[List.mem_reverse]at h;exact ku _ _ (List.mem_reverse.1 (ku _ _ h))
theorem Jp(st:Nd->Bool):∀(l:List Nd),dL (bG st l).1+(match (bG st l).2.1 with|none=>0|some b=>Cc b)+dL (bG st l).2.2<=dL l
 |[]=>by simp[bG,dL]
 |n::r=>by
  unfold bG;split
  .simp only[lG,bW];omega
  .have:=Jp st r;simp only[bW];omega
theorem yj(st:Nd->Bool):∀(l:List Nd) (m:Nd),m∈(bG st l).1->m∈l
 |[],m,h=>by simp[bG]at h
 |n::r,m,h=>by
  unfold bG at h;split at h
  .simp at h
  .rcases List.mem_cons.1 h with e|e
   .simp[e]
   .exact List.mem_cons_of_mem _ (yj st r m e)
theorem Jq(st:Nd->Bool):∀(l:List Nd) (b:Nd),(bG st l).2.1=some b->b∈l
 |[],b,h=>by simp[bG]at h
 |n::r,b,h=>by
  unfold bG at h;split at h
  .simp at h;simp[h]
  .exact List.mem_cons_of_mem _ (Jq st r b h)
theorem nR(st:Nd->Bool):∀(l:List Nd) (m:Nd),m∈(bG st l).2.2->m∈l
 |[],m,h=>by simp[bG]at h
 |n::r,m,h=>by
  unfold bG at h;split at h
  .exact List.mem_cons_of_mem _ h
  .exact List.mem_cons_of_mem _ (nR st r m h)
theorem Nq(w:BY):(jM w).size=w.size:=by
 unfold jM;split
 .rfl
 .exact jE w
theorem Dj(l:List Nd):dL l.dropLast<=dL l:=by
 rcases Yr l with rfl|⟨i,x,rfl⟩
 .exact Nat.le_refl _
 .rw[List.dropLast_concat,vY];omega
theorem aaG(v:List Nd):dL (gW v).1<=dL v:=by
 unfold gW;split
 .exact Nat.le_refl _
 .split
  .split
   .exact Nat.le_refl _
   .split
    .have h1:=kU (bare v.dropLast).dropLast;have h2:=Dj (bare v.dropLast);have h3:=kU v.dropLast;have h4:=Dj v;show dL (bare (bare v.dropLast).dropLast)<=_;omega
    .exact Nat.le_refl _
  .exact Nat.le_refl _
theorem WQ(v:List Nd)(n:Nd)(h:n∈(gW v).1):n∈v:=by
 unfold gW at h;split at h
 .exact h
 .split at h
  .split at h
   .exact h
   .split at h
    .exact List.dropLast_subset _ (nP _ _ (List.dropLast_subset _ (nP _ _ h)))
    .exact h
  .exact h
theorem adb{l:List Nd}{d:Dec}(h:iI l=some d):dz d<=dL l/\∀n∈d.val,n∈l:=by
 unfold iI at h;split at h
 .cases h
 .rename_i n r;split at h
  .cases h
  .split at h
   .cases h
   .rename_i c q hq;split at h
    .cases h;have h1:=aaG (bare q);have h2:=kU q;have h3:=kU r;rw[hq,bW,gY c]at h3;refine⟨?_,fun m hm=>?_⟩
     .unfold dz;simp only[Nq];rw[bW,gY n];omega
     .have:=nP _ _ (WQ _ _ hm);exact List.mem_cons_of_mem _ (nP r m (by rw[hq];exact List.mem_cons_of_mem _ this))
    .cases h
theorem Dk:∀(f:Nat) (l:List Nd),Qk (fF f l)<=dL l/\∀d∈fF f l,∀n∈d.val,n∈l
 |0,l=>by simp[fF,Qk]
 |f+1,[]=>by simp[fF,Qk]
 |f+1,n::r=>by
  unfold fF;split
  .have ih:=Dk f r;rw[bW];exact⟨oo,fun d hd m hm=>List.mem_cons_of_mem _ (ih.2 d hd m hm)⟩
  split
  .have ih:=Dk f (bG (fun m=>aS m||aK m) r).2.2;have h1:=Jp (fun m=>aS m||aK m) r;rw[bW];exact⟨oo,fun d hd m hm=>List.mem_cons_of_mem _ (nR _ _ _ (ih.2 d hd m hm))⟩
  .have ih:=Dk f (bG aS (n::r)).2.2;have h1:=Jp aS (n::r);have h2:∀d∈fF f (bG aS (n::r)).2.2,∀m∈d.val,m∈n::r:=fun d hd m hm=>nR _ _ _ (ih.2 d hd m hm);simp only;split
   .exact⟨oo,h2⟩
   .rename_i d0 hd0;have h3:=adb hd0;refine⟨by simp only[Qk];omega,fun d hd m hm=>?_⟩;rcases List.mem_cons.1 hd with e|e
    .subst e;exact yj _ _ _ (h3.2 m hm)
    .exact h2 d e m hm
theorem Dl(l:List Nd):Qk (decls l)<=dL l/\∀d∈decls l,∀n∈d.val,n∈l:=Dk _ l
def rwz(r:Rule):Nat:=4*(r.at_.getD aA).size+16+dL r.head+dL (r.body.getD [])
def Dp:List Rule->Nat
 |[]=>0
 |r::q=>rwz r+Dp q
theorem YP:∀(l:List Rule) (r:Rule),r∈l->rwz r<=Dp l
 |m::r,n,h=>by
  unfold Dp;rcases List.mem_cons.1 h with e|e
  .subst e;omega
  .have:=YP r n e;omega
structure aaH(l:List Nd)(r:Rule):Prop where
 head:∀n∈r.head,n∈l
 body:∀b,r.body=some b->∃n∈l,aK n=true/\b=n.kids
 sty:r.at_=none->r.body.isSome=true
theorem aaH.wide{l l':List Nd}{r:Rule}(h:aaH l r)(hs:∀n∈l,n∈l'):aaH l' r:=⟨fun n hn=>hs n (h.head n hn),fun b hb=>by obtain⟨n,h1,h2⟩:=h.body b hb;exact⟨n,hs n h1,h2⟩,h.sty⟩
theorem Dq(sh:Bool):∀(f:Nat) (l:List Nd),Dp (fM f sh l)<=dL l/\∀r∈fM f sh l,aaH l r
 |0,l=>by simp[fM,Dp]
 |f+1,[]=>by simp[fM,Dp]
 |f+1,n::r=>by
  unfold fM;split
  .have ih:=Dq sh f r;rw[bW];exact⟨oo,fun d hd=>(ih.2 d hd).wide fun m hm=>List.mem_cons_of_mem _ hm⟩
  split
  .have ih:=Dq sh f (bG (fun m=>aS m||aK m) r).2.2;have h1:=Jp (fun m=>aS m||aK m) r;have h2:=Jq (fun m=>aS m||aK m) r;have hb:dL ((gV (bG (fun m=>aS m||aK m) r).2.1).getD [])<=(match (bG (fun m=>aS m||aK m) r).2.1 with|none=>0|some b=>Cc b):=by
    cases(bG (fun m=>aS m||aK m) r).2.1 with
    |none=>simp[gV,dL]
    |some b=>
     show dL ((if aK b=true then some b.kids else none).getD [])<=Cc b;by_cases hq:aK b=true
     .rw[if_pos hq,gY];show dL b.kids<=_;omega
     .rw[if_neg hq];show dL []<=_;rw[lG];exact Nat.zero_le _
   simp only;refine⟨?_,fun d hd=>?_⟩
   .unfold Dp rwz;simp only[Option.getD_some];rw[bW,gY n];omega
   .rcases List.mem_cons.1 hd with e|e
    .subst e;refine⟨fun m hm=>List.mem_cons_of_mem _ (yj _ _ _ hm),fun b hbb=>?_,fun h=>by cases h⟩;simp only at hbb;cases hc:(bG (fun m=>aS m||aK m) r).2.1 with
     |none=>rw[hc]at hbb;simp[gV]at hbb
     |some q=>
      rw[hc]at hbb;have agz:(if aK q=true then some q.kids else none)=some b:=hbb;by_cases hq:aK q=true
      .rw[if_pos hq]at agz;cases agz;exact⟨q,List.mem_cons_of_mem _ (h2 q hc),hq,rfl⟩
      .rw[if_neg hq]at agz;cases agz
    .exact(ih.2 d e).wide fun m hm=>List.mem_cons_of_mem _ (nR _ _ _ hm)
  .have h1:=Jp aK (n::r);have h2:=Jq aK (n::r);have h3:=vP aK (n::r);simp only;split
   .simp[Dp]
   .rename_i b hc;have ih:=Dq sh f (bG aK (n::r)).2.2;rw[hc]at h1;simp only at h1;refine⟨?_,fun d hd=>?_⟩
    .unfold Dp rwz;simp only[Option.getD_some,Option.getD_none];have e:aA.size=0:=rfl;rw[gY]at h1;rw[e];omega
    .rcases List.mem_cons.1 hd with e|e
     .subst e;refine⟨fun m hm=>yj _ _ _ hm,fun q hq=>?_,fun _=>rfl⟩;cases hq;exact⟨b,h2 b hc,h3 b hc,rfl⟩
     .exact(ih.2 d e).wide fun m hm=>nR _ _ _ hm
theorem pO(sh:Bool)(l:List Nd):Dp (rules sh l)<=dL l/\∀r∈rules sh l,aaH l r:=Dq sh _ l
theorem aju{l b:List Nd}{r:Rule}(h:aaH l r)(hg:gL l)(hb:r.body=some b):gL b/\depth b+1<=depth l:=by
 obtain⟨n,h1,h2,rfl⟩:=h.body b hb;have h3:=(Ba n).1 ((yh l).1 hg n h1);have h4:=Ai l n h1;have h5:¬closing n.t=aA:=by unfold aK dN au at h2;simp only[Bool.and_eq_true,decide_eq_true_eq]at h2;unfold closing;rw[if_neg (by rw[h2.1];omega),if_pos h2.1,h2.2];decide
 rw[xE h5]at h4;exact⟨h3.2.2.2,h4⟩
section
theorem Nr:∀(a b:List Simple),zA (a++b)=zA a+zA b
 |[],b=>by simp[zA]
 |s::r,b=>by
  rw[List.cons_append];conv=>lhs;unfold zA
  conv=>rhs;lhs;unfold zA
  rw[Nr r b];omega
theorem WR(s:Simple):zA [s]=zS s:=by simp[zA]
theorem YQ(k:Nat)(nm how v:BY)(l:bY)(p:Nat):zS (.mk k nm how v l p)=4*nm.size+4*v.size+how.size+120+zL l:=by conv=>lhs;unfold zS
theorem WS:zL []=0:=by unfold zL;rfl
theorem Jr(k:Nat)(nm:BY):zS (Simple.of k nm)=4*nm.size+120:=by unfold Simple.of;rw[YQ,WS];have e:aA.size=0:=rfl;rw[e]
theorem Sr{l:List Nd}{s:Simple}(h:gG l=some s):zS s<=4*dL l+124:=by
 unfold gG at h;split at h
 .cases h
 .rename_i n r;rw[bW,gY n];simp only at h;split at h
  .cases h
  .split at h
   .cases h;rw[Jr];omega
   .rename_i m r1 hb;have h3:=kU r;rw[hb,bW,gY m]at h3;split at h
    .cases h
    .split at h
     .cases h
     .rename_i q r2 hq;have hq2:dL (q::r2)<=16+4*m.t.word.size+4*m.t.unit.size+dL m.kids+dL r1:=by
       rw[<-hq];split
       .omega
       .rw[bW,gY];omega
      rw[bW]at hq2;split at h
      .rename_i v hv;have h4:=kU r2;rw[hv,bW,gY v]at h4;split at h
       .cases h;rw[YQ,WS];have e:((if m.t.word=b1 126\/m.t.word=b1 94\/m.t.word=b1 36\/m.t.word=b1 42 then m.t.word else aA)++b1 61).size<=m.t.word.size+1:=by
         rw[ByteArray.size_append];have e1:(b1 61).size=1:=rfl;have e0:aA.size=0:=rfl;split
         .omega
         .omega
        omega
       .cases h
      .cases h
theorem ade{l r:List Nd}{c:Nat}(h:gU l=some (c,r)):dL r<=dL l:=by
 have hd:=uD l;unfold gU at h;split at h
 .split at h
  .cases h
  .cases h;rw[lG];exact Nat.zero_le _
 .rename_i n q hq;have hb:=uD q;rw[hq,bW]at hd;split at h
  .cases h;omega
  split at h
  .cases h;omega
  split at h
  .cases h;omega
  split at h
  .cases h;rw[bW];omega
  .cases h
theorem Js:∀(l:List Nd) (out:List (List Nd)) (cur:List Nd),((iZ out cur l).map dL).sum<=(out.map dL).sum+dL cur+dL l
 |[],out,cur=>by unfold iZ;rw[List.map_append,List.sum_append];simp only[List.map_cons,List.map_nil,List.sum_cons,List.sum_nil];omega
 |m::r,out,cur=>by
  unfold iZ;rw[bW];split
  .have:=Js r (out++[cur]) [];rw[List.map_append,List.sum_append,lG]at this;simp only[List.map_cons,List.map_nil,List.sum_cons,List.sum_nil]at this;omega
  .have:=Js r out (cur++[m]);rw[vY,bW,lG]at this;omega
section
variable {rec:List Nd->Option bY} (hrec : ∀ l ss,rec l=some ss->zL ss<=16*dL l)
include hrec
theorem aaI{n:Nd}{s:Simple}(h:bM rec n=some s):zS s+100<=16*Cc n:=by
 rw[gY];unfold bM at h;simp only at h;split at h
 .split at h
  .cases h;rw[Jr,jE];omega
  .cases h
 split at h
 .cases h
 have e:aA.size=0:=rfl;split at h
 .cases hr:rec n.kids with
  |none=>rw[hr]at h;cases h
  |some ss=>rw[hr]at h;simp at h;subst h;have:=hrec _ _ hr;rw[YQ,jE,e];omega
 split at h
 .split at h
  .rename_i v hv;cases hp:placeOf v.t with
   |none=>rw[hp]at h;cases h
   |some q=>rw[hp]at h;simp at h;subst h;rw[YQ,jE,e,WS];omega
  .cases h
 .cases h
theorem adf(n:Nat):∀(acc:List Simple) (l:List Nd) (all:List Simple) (r:List Nd),l.length<=n->bZ rec acc l=some (all,r)->zA all+100*all.length+16*dL r<=zA acc+100*acc.length+16*dL l:=by
 induction n with
 |zero=>intro acc l all r hl h;obtain rfl:l=[]:=List.eq_nil_of_length_eq_zero oo;simp[bZ]at h;obtain⟨rfl,rfl⟩:=h;exact Nat.le_refl _
 |succ n ih=>
  intro acc l all r hl h;have one:∀s,zA (acc++[s])+100*(acc++[s]).length=zA acc+100*acc.length+(zS s+100):=fun s=>by rw[Nr,WR,List.length_append];show _+100*(_+1)=_;omega
  match l,hl,h with
  |[],_,h=>simp[bZ]at h;obtain⟨rfl,rfl⟩:=h;exact Nat.le_refl _
  |[m],_,h=>
   rw[bW,gY m,lG];unfold bZ at h;split at h
   .cases h;rw[one,Jr,lG];omega
   split at h
   .cases h
   split at h
   .split at h
    .cases h
    .rename_i s hs;cases h;have h1:=Sr hs;have h2:=kU m.kids;rw[one,lG];omega
   split at h
   .cases h
   .cases h;rw[bW,gY m,lG];omega
  |m::q::r',hl,h=>
   simp only[List.length_cons]at hl;rw[bW,gY m];unfold bZ at h;split at h
   .have:=ih _ _ _ _ An h;rw[one,Jr]at this;omega
   split at h
   .split at h
    .have:=ih _ _ _ _ oo h;rw[one,Jr]at this;rw[bW,gY q];omega
    .cases h
   split at h
   .split at h
    .cases h
    .rename_i s hs;have:=ih _ _ _ _ An h;have h1:=Sr hs;have h2:=kU m.kids;rw[one]at this;omega
   split at h
   .split at h
    .cases h
    .rename_i s hs;have:=ih _ _ _ _ oo h;have h1:=aaI hrec hs;rw[one]at this;rw[bW q];omega
   .cases h;rw[bW m,gY m];omega
theorem Sv{l:List Nd}{all:List Simple}{r:List Nd}(h:aZ rec l=some (all,r)):zA all+100*all.length+16*dL r<=16*dL l:=by
 unfold aZ at h;have h1:=adf hrec _ _ _ _ _ nl h;have ht:zA (kP l).1+100*(kP l).1.length+16*dL (kP l).2<=16*dL l:=by
  unfold kP;split
  .simp[zA]
  .rw[bW,gY];split
   .simp only[WR,Jr,jE];show _+100*1+_<=_;omega
   split
   .have e:aA.size=0:=rfl;simp only[WR,Jr,e];show _+100*1+_<=_;omega
   .simp only[bW,gY];show zA []+100*0+_<=_;have e:zA []=0:=by unfold zA;rfl
    omega
 omega
theorem Jt:∀(f b:Nat) (l:List Nd) (ss:List Step),bD rec f b l=some ss->zC ss+90<=16*dL l
 |0,_,_,_,h=>by simp[bD]at h
 |f+1,b,l,ss,h=>by
  unfold bD at h;split at h
  .cases h
  .rename_i all r hc;have h1:=Sv hrec hc;split at h
   .cases h
   .rename_i hne;have hl:1<=all.length:=by cases all with|nil=>exact absurd rfl hne|cons _ _=>simp
    split at h
    .cases h;simp only[zC,zT];omega
    .split at h
     .cases h
     .rename_i c r' hcb;have hw:=ade hcb;cases hx:bD rec f c r' with
      |none=>rw[hx]at h;cases h
      |some x=>
       rw[hx]at h;simp at h;subst h;have ih:=Jt f c r' x hx;conv=>lhs;unfold zC
       simp only[zT];omega
theorem YR:∀(ps:List (List Nd)) (ss:bY),fZ rec ps=some ss->zL ss<=16*(ps.map dL).sum
 |[],ss,h=>by simp[fZ]at h;subst h;simp[zL]
 |p::r,ss,h=>by
  unfold fZ at h;split at h
  .cases h
  .rename_i s hs;cases hx:fZ rec r with
   |none=>rw[hx]at h;cases h
   |some x=>
    rw[hx]at h;simp at h;subst h;have h1:=Jt hrec _ _ _ _ hs;have h2:=kU p;have h3:=YR r x hx;conv=>lhs;unfold zL
    rw[List.map_cons,List.sum_cons];omega
theorem YS{l:List Nd}{ss:bY}(h:oz rec l=some ss):zL ss<=16*dL l:=by
 unfold oz at h;split at h
 .cases h
 .have h1:=YR hrec _ _ h;have h2:=Js l [] [];rw[lG]at h2;simp only[List.map_nil,List.sum_nil]at h2;unfold parted at h1;omega
end
theorem OM:∀(f:Nat) (l:List Nd) (ss:bY),lM f l=some ss->zL ss<=16*dL l
 |0,l,ss,h=>YS (rec:=fun _=>none) (fun _ _ h=>by cases h) h
 |f+1,l,ss,h=>YS (rec:=lM f) (fun l ss h2=>OM f l ss h2) h
theorem adg:∀(ss:bY),ss.length<=zL ss
 |[]=>by simp
 |c::r=>by have:=adg r;unfold zL;simp only[List.length_cons];omega
theorem Ez(p:aF):eH p []=true:=by unfold eH jg;rfl
theorem Dt(p:aF):∀(a b:List Nd),eH p (a++b)=(eH p a&&eH p b)
 |[],b=>by rw[Ez];rfl
 |n::r,b=>by rw[List.cons_append,pz,pz,Dt p r b];cases oI p n.t<;>cases eH p n.kids<;>cases eH p r<;>rfl
theorem EC(p:aF):∀(a:List Nd),eH p a.reverse=eH p a
 |[]=>rfl
 |n::r=>by rw[List.reverse_cons,Dt,EC p r,pz,pz,Ez];cases oI p n.t<;>cases eH p n.kids<;>cases eH p r<;>rfl
theorem yt(p:aF):∀(l:List Nd),gL l->eH p (aH l)=eH p l
 |[],_=>by unfold aH;rfl
 |n::r,h=>by
  simp only[gL]at h;unfold aH;split
  .rename_i hb;have hk:n.t.kind=1:=by unfold iH at hb;simpa using hb
   have hc:closing n.t=aA:=by unfold closing;rw[if_neg (by rw[hk];omega),if_neg (by rw[hk];omega)]
   have hkids:=((Ba n).1 h.1).2.2.1 hc;rw[yt p r h.2,pz,hkids,Ez];have:oI p n.t=true:=by unfold oI;simp[hk]
   rw[this];simp
  .rfl
theorem WT(p:aF){l:List Nd}(h:gL l):eH p (bare l)=eH p l:=by unfold bare lJ;have h1:gL (aH l):=qw h fun n hn=>ku l n hn;rw[EC,yt p _ (qw h1 fun n hn=>List.mem_reverse.1 hn),EC,yt p _ h]
theorem agA[bV]{p:aF}{rec:List Nd->BY}{r:Rule}(h:gL r.head)(hs:r.at_=none->r.body.isSome=true):kE p rec r=H9 p rec r:=by
 obtain⟨at_,head,body⟩:=r;unfold kE H9;cases at_ with
 |none=>
  cases body with
  |none=>have:=hs rfl;simp at this
  |some b=>
   show Jm p head b=H8 p _ b;unfold Jm H8;cases Ot head with
   |none=>rfl
   |some ss=>show yg _ _=_;unfold yg;rfl
 |some w=>
  cases body with
  |none=>show AZ p w false head _=aA;unfold AZ;rw[if_neg (by simp)]
  |some b=>
   show AZ p w true head (rec b)=_;unfold AZ yg;have h1:=WT p h;simp only at h1;rw[<-h1];by_cases hc:p.ats.contains (small w)=true/\eH p (bare head)=true
   .rw[if_pos (by rw[hc.1,hc.2];rfl)];simp only;rw[if_pos hc];split
    .rfl
    .simp[ByteArray.append_assoc]
   .rw[if_neg (by intro h;simp only[Bool.true_and,Bool.and_eq_true]at h;exact hc h)];simp only;rw[if_neg hc]
theorem WU[bV](hd:jm)(root:BY)(ss:bY)(hq:CO ss)(hr:root.size<=12):(jV (jc root) ss).size<=16*zL ss:=by
 have h1:=vW (b1 44) (ss.map (fun x=>jc root++dW x));rw[AX,List.length_map]at h1;have h2:=zf hd (jc root) ss hq;have h3:(jc root).size<=14:=by
  unfold jc;split
  .show 0<=14;omega
  .rw[ByteArray.size_append,ByteArray.size_append];show 1+(_+1)<=14;omega
 have h4:ss.length*(jc root).size<=ss.length*14:=Nat.mul_le_mul nl h3;have h5:=adg ss;have e:(b1 44).size=1:=rfl;rw[e]at h1;omega
theorem Ns(h b:BY):(yg h b).size<=h.size+b.size+2:=by
 unfold yg;have e1:(b1 123).size=1:=rfl;have e2:(b1 125).size=1:=rfl;split
 .show 0<=_;omega
 .rw[ByteArray.size_append,ByteArray.size_append,ByteArray.size_append,e1,e2];omega
theorem aaJ[bV](hd:jm){p:aF}{rec:List Nd->BY}{r:Rule}(h:gL r.head)(hp:p.root.size<=12)(hrec:∀b,r.body=some b->(rec b).size<=300*dL b):(kE p rec r).size<=300*rwz r:=by
 obtain⟨at_,head,body⟩:=r;have hr:∀b,body=some b->(rec b).size<=300*dL b:=hrec;unfold kE rwz;cases at_ with
 |none=>
  show(Jm p head (body.getD [])).size<=300*(4*(none.getD aA).size+16+dL head+dL (body.getD []));unfold Jm;cases hs:Ot head with
  |none=>show 0<=_;omega
  |some ss=>have h1:=Ns (jV (jc p.root) ss) (tX p (body.getD []));have h2:=WU hd p.root ss (Gw _ _ _ (Sm _ h) hs) hp;have h3:=OM _ _ _ hs;have h4:=Jl p (body.getD []);have h5:=(Dl (body.getD [])).1;show(yg _ _).size<=_;omega
 |some w=>
  show(AZ p w body.isSome head (rec (body.getD []))).size<=300*(4*w.size+16+dL head+dL (body.getD []));unfold AZ;split
  .rename_i hc;cases body with
   |none=>simp at hc
   |some b=>have h0:=hr b rfl;show(yg _ (rec b)).size<=300*(4*w.size+16+dL head+dL b);have h1:=Ns (b1 64++(dP (small w)++qE (bare head))) (rec b);have h2:=fQ (small w);have h3:=Jf (bare head);have h4:=kU head;have e:(b1 64).size=1:=rfl;rw[ByteArray.size_append,ByteArray.size_append,e]at h1;rw[jE]at h2;omega
  .show 0<=_;omega
theorem uF[bV](hd:jm){p:aF}{rec:List Nd->BY}(hp:p.root.size<=12):∀(rs:List Rule),(∀r∈rs,gL r.head/\∀b,r.body=some b->(rec b).size<=300*dL b)->total (rs.map (kE p rec))<=300*Dp rs
 |[],_=>by simp[total]
 |r::q,h=>by have ih:=uF hd hp q fun x hx=>h x (by simp[hx]);have h0:=h r Ab;have h1:=aaJ hd h0.1 hp h0.2;simp only[List.map_cons,total,Dp];omega
theorem Ju:∀(l:List BY),aG l=cat l
 |[]=>rfl
 |a::r=>by show a++aG r=a++cat r;rw[Ju r]
theorem Jv:∀(l:List BY),(cat l).size=total l
 |[]=>rfl
 |a::r=>by show(a++cat r).size=a.size+total r;rw[ByteArray.size_append,Jv r]
theorem mP{sh:Bool}{l:List Nd}(hg:gL l):∀r∈rules sh l,gL r.head/\(r.at_=none->r.body.isSome=true)/\(∀b,r.body=some b->gL b/\depth b+1<=depth l)/\rwz r<=dL l:=fun r hr=>by have h1:=pO sh l;have h2:=h1.2 r hr;have h3:=YP _ r hr;exact⟨qw hg h2.head,h2.sty,fun b hb=>aju h2 hg hb,oo⟩
theorem Gy[bV]{p:aF}{rec:List Nd->BY}{sh:Bool}{l:List Nd}(hg:gL l):(rules sh l).map (kE p rec)=(rules sh l).map (H9 p rec):=List.map_congr_left fun r hr=>by have h:=mP hg r hr;exact agA h.1 h.2.1
theorem zh[bV](hd:jm)(p:aF)(hp:p.root.size<=12):∀(f:Nat) (sh:Bool) (l:List Nd),gL l->(tY p f sh l).size<=300*dL l
 |0,sh,l,hg=>by unfold tY;rw[Jv,<-Gy hg];have:=uF hd (rec:=fun _=>aA) hp (rules sh l) (fun r hr=>⟨(mP hg r hr).1,fun b _=>by show 0<=_;omega⟩);have:=(pO sh l).1;omega
 |f+1,sh,l,hg=>by unfold tY;rw[Jv,<-Gy hg];have:=uF hd (rec:=tY p f false) hp (rules sh l) (fun r hr=>⟨(mP hg r hr).1,fun b hb=>zh hd p hp f false b ((mP hg r hr).2.2.1 b hb).1⟩);have:=(pO sh l).1;omega
end
theorem adh{p:aF}{pv fv av:Av}{rec:List Nd->BY}{w:WD}{sh:Bool}{l:List Nd}(hg:gL l)(hz:dL l<=4000000)(hsz:∀b,gL b->(rec b).size<=300*dL b)
  (hrec:∀b,gL b->depth b+1<=depth l->dL b<=4000000->vX p pv fv av (rules false b) (rec b) w):∀r∈rules sh l,FH p pv fv av rec w r:=by
 intro r hr;obtain⟨h1,h2,h3,h4⟩:=mP hg r hr;have h5:=kU r.head;have h6:dL r.head+dL (r.body.getD [])<=4000000:=by unfold rwz at h4;omega
 have hgb:gL (r.body.getD []):=by
  cases hb:r.body with
  |none=>show gL [];simp[gL]
  |some b=>exact(h3 b hb).1
 refine⟨Sm _ h1,aio h1,h2,oo,fun ss hs=>?_,fun _ d hd=>?_,fun _=>?_,?_,fun x b hx hb=>?_⟩
 .have:=OM _ _ _ hs;omega
 .exact aio (qw hgb ((Dl (r.body.getD [])).2 d hd))
 .have:=(Dl (r.body.getD [])).1;omega
 .have:=hsz _ hgb;omega
 .have h7:=h3 b hb;rw[hb]at h6;exact hrec b h7.1 h7.2 (by show dL b<=_;have:dL r.head+dL b<=4000000:=h6;omega)
theorem Sz[bV](p:aF)(pv fv av:Av)(hds:jm)(hpr:allB jh p.root=true)(AY:p.root.size<=12):∀(f:Nat) (sh:Bool) (l:List Nd) (B:Nat) (w:WD),jK B w p pv fv av->jD w->gL l->depth l<=f->dL l<=4000000->vX p pv fv av (rules sh l) (tY p f sh l) w
 |0,sh,l,B,w,hP,hI,hg,hd,hz=>by
  intro u w' hb hs;have hlt:=hP.lt;have hv:tY p 0 sh l=aG ((rules sh l).map (kE p (fun _=>aA))):=by unfold tY;rw[Ju,Gy hg]
  rw[hv];refine FI w'.heap.size p pv fv av (fun _=>aA) (rules sh l) u w' ((hP.below hb hlt).mono (by have:=hb.size;omega) nl) hs (hI.below hb nl) hds hpr AY ?_ ?_
  .exact adh hg hz (fun b _=>by show 0<=_;omega) (fun b _ h _=>by omega)
  .have:=uF hds (rec:=fun _=>aA) AY (rules sh l) (fun r hr=>⟨(mP hg r hr).1,fun b _=>by show 0<=_;omega⟩);have:=(pO sh l).1;omega
 |f+1,sh,l,B,w,hP,hI,hg,hd,hz=>by
  intro u w' hb hs;have hlt:=hP.lt;have hv:tY p (f+1) sh l=aG ((rules sh l).map (kE p (tY p f false))):=by
   conv=>lhs;unfold tY
   rw[Ju,Gy hg]
  rw[hv];have hP':jK w'.heap.size w' p pv fv av:=(hP.below hb hlt).mono (by have:=hb.size;omega) nl;have hI':=hI.below hb nl;refine FI w'.heap.size p pv fv av (tY p f false) (rules sh l) u w' hP' hs hI' hds hpr AY ?_ ?_
  .exact adh hg hz (fun b hgb=>zh hds p AY f false b hgb) (fun b hgb h hzb=>Sz p pv fv av hds hpr AY f false b _ w' hP' hI' hgb oo hzb)
  .have:=uF hds (rec:=tY p f false) AY (rules sh l) (fun r hr=>⟨(mP hg r hr).1,fun b hb=>zh hds p AY f false b ((mP hg r hr).2.2.1 b hb).1⟩);have:=(pO sh l).1;omega
