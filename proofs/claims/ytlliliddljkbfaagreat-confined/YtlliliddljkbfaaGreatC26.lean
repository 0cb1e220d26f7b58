import Derived.Test.YtlliliddljkbfaaGreatC24
set_option maxHeartbeats 64000000
set_option maxRecDepth 100000
namespace Go.Proofs.YtlliliddljkbfaaGreat.Sp
section
mutual
def ddS:Simple->Nat->Prop
 |.mk k nm _ _ l _,D=>(k=91->1<=D)/\((k≠116/\k≠35/\k≠46/\k≠91)->((nm=nD\/nm=DY)->1<=D/\TW l (D-1))/\(nm=nG->1<=D))
def L8:List Simple->Nat->Prop
 |[],_=>True
 |s::r,D=>ddS s D/\L8 r D
def ddT:Nat×List Simple->Nat->Prop
 |(_,all),D=>L8 all D
def ddC:List (Nat×List Simple)->Nat->Prop
 |[],_=>True
 |t::r,D=>ddT t D/\ddC r D
def TW:List (List (Nat×List Simple))->Nat->Prop
 |[],_=>True
 |c::r,D=>ddC c D/\TW r D
end
theorem J3(D:Nat):∀(a b:List Simple),L8 a D->L8 b D->L8 (a++b) D
 |[],_,_,h=>h
 |s::r,b,h,k=>by simp only[L8]at h;rw[List.cons_append];simp only[L8];exact⟨h.1,J3 D r b h.2 k⟩
theorem J5{D k:Nat}{w:BY}(h:k=116\/k=35\/k=46):ddS (Simple.of k w) D:=by unfold Simple.of;simp only[ddS];exact⟨fun e=>by omega,fun e=>by omega⟩
theorem uK{D:Nat}{a:List Simple}{s:Simple}(h:L8 a D)(k:ddS s D):L8 (a++[s]) D:=J3 D a [s] h (by simp only[L8];exact⟨k,trivial⟩)
theorem dU(n:Nd)(r:List Nd):depth (n::r)=max (eU n) (depth r):=by rw[depth]
theorem NG(n:Nd):eU n=if closing n.t=aA then 0 else depth n.kids+1:=by obtain⟨t,k⟩:=n;rw[eU];rfl
theorem mG{D:Nat}{l:List Nd}(h:depth l<=D):∀n∈l,eU n<=D:=by
 induction l with
 |nil=>simp
 |cons m r ih=>
  rw[dU]at h;intro n hn;rcases List.mem_cons.1 hn with rfl|hn
  .omega
  .exact ih oo n hn
theorem qh{D:Nat}{l:List Nd}(h:∀n∈l,eU n<=D):depth l<=D:=by
 induction l with
 |nil=>simp[depth]
 |cons m r ih=>rw[dU];have h1:=h m Ab;have h2:=ih fun n hn=>h n (by simp[hn]);omega
theorem TY{n:Nd}(h:dN n (b1 91)=true):1<=eU n:=by
 unfold dN au at h;simp only[Bool.and_eq_true,decide_eq_true_eq]at h;rw[NG];have hc:closing n.t≠aA:=by unfold closing;rw[if_neg oo,if_pos h.1,h.2,if_neg (by decide),if_pos rfl];decide
 rw[if_neg hc];omega
theorem abb{n:Nd}(h:n.t.kind=11):eU n=depth n.kids+1:=by
 rw[NG];have hc:closing n.t≠aA:=by unfold closing;rw[if_pos h];decide
 rw[if_neg hc]
theorem ael{l:List Nd}{s:Simple}(h:gG l=some s):∃nm how v,s=.mk 91 nm how v [] 0:=by
 unfold gG at h;split at h
 .cases h
 .split at h
  .cases h
  .simp only at h;split at h
   .cases h;exact⟨_,_,_,rfl⟩
   .split at h
    .cases h
    .split at h
     .cases h
     .split at h
      .split at h
       .cases h;exact⟨_,_,_,rfl⟩
       .cases h
      .cases h
theorem Ua{D:Nat}{l:List Nd}{s:Simple}(h:gG l=some s)(hD:1<=D):ddS s D:=by obtain⟨nm,how,v,rfl⟩:=ael h;simp only[ddS];exact⟨fun _=>hD,fun e=>by omega⟩
section
variable {rec:List Nd->Option bY} (hrec : ∀ l ss D,rec l=some ss->depth l<=D->TW ss D)
include hrec
theorem abd{D:Nat}{n:Nd}{s:Simple}(h:bM rec n=some s)(hD:eU n<=D):ddS s D:=by
 unfold bM at h;simp only at h;split at h
 .split at h
  .rename_i hw;cases h;unfold Simple.of;simp only[ddS];refine⟨fun e=>by omega,fun _=>⟨fun e=>?_,fun e=>?_⟩⟩
   .exfalso
    rcases hw with hw|hw|hw|hw<;>rw[hw]at e<;>revert e<;>decide
   .exfalso
    rcases hw with hw|hw|hw|hw<;>rw[hw]at e<;>revert e<;>decide
  .cases h
 split at h
 .cases h
 rename_i hk;have hf:=abb (n:=n) (by simpa using hk);split at h
 .cases hr:rec n.kids with
  |none=>rw[hr]at h;cases h
  |some ss=>rw[hr]at h;simp at h;subst h;simp only[ddS];exact⟨fun e=>by omega,fun _=>⟨fun _=>⟨oo,hrec _ _ _ hr oo⟩,fun _=>by omega⟩⟩
 split at h
 .split at h
  .rename_i v hv;cases hp:placeOf v.t with
   |none=>rw[hp]at h;cases h
   |some pl=>rw[hp]at h;simp at h;subst h;simp only[ddS];exact⟨fun e=>by omega,fun _=>⟨fun _=>⟨oo,trivial⟩,fun _=>by omega⟩⟩
  .cases h
 .cases h
theorem aem(D:Nat)(n:Nat):∀(acc:List Simple) (l:List Nd) (all:List Simple) (r:List Nd),l.length<=n->depth l<=D->L8 acc D->bZ rec acc l=some (all,r)->L8 all D/\depth r<=D:=by
 induction n with
 |zero=>intro acc l all r hl hn ha h;obtain rfl:l=[]:=List.eq_nil_of_length_eq_zero oo;simp[bZ]at h;obtain⟨rfl,rfl⟩:=h;exact⟨ha,hn⟩
 |succ n ih=>
  intro acc l all r hl hn ha h;match l,hl,hn,h with
  |[],_,hn,h=>simp[bZ]at h;obtain⟨rfl,rfl⟩:=h;exact⟨ha,hn⟩
  |[m],_,hn,h=>
   have hm:=mG hn m Ab;unfold bZ at h;split at h
   .cases h;exact⟨uK ha (J5 oo),by simp[depth]⟩
   split at h
   .cases h
   split at h
   .rename_i hb;split at h
    .cases h
    .rename_i s hs;have:=TY hb;cases h;exact⟨uK ha (Ua hs oo),by simp[depth]⟩
   split at h
   .cases h
   .cases h;exact⟨ha,hn⟩
  |m::q::r',hl,hn,h=>
   simp only[List.length_cons]at hl;have hm:=mG hn m Ab;have hq:=mG hn q Ab;have h1:depth (q::r')<=D:=by rw[dU]at hn;omega
   have h2:depth r'<=D:=by rw[dU]at h1;omega
   unfold bZ at h;split at h
   .exact ih _ _ _ _ An h1 (uK ha (J5 oo)) h
   split at h
   .split at h
    .exact ih _ _ _ _ oo h2 (uK ha (J5 oo)) h
    .cases h
   split at h
   .rename_i hb;split at h
    .cases h
    .rename_i s hs;have:=TY hb;exact ih _ _ _ _ An h1 (uK ha (Ua hs oo)) h
   split at h
   .split at h
    .cases h
    .rename_i s hs;exact ih _ _ _ _ oo h2 (uK ha (abd hrec hs hq)) h
   .cases h;exact⟨ha,hn⟩
theorem Ub{D:Nat}{l:List Nd}{all:List Simple}{r:List Nd}(hn:depth l<=D)(h:aZ rec l=some (all,r)):L8 all D/\depth r<=D:=by
 unfold aZ at h;have ht:depth (kP l).2<=D/\L8 (kP l).1 D:=by
  unfold kP;split
  .exact⟨by simp[depth],by simp[L8]⟩
  .rename_i m q;have hq:depth q<=D:=by rw[dU]at hn;omega
   split
   .exact⟨hq,by simp only[L8];exact⟨J5 oo,trivial⟩⟩
   split
   .exact⟨hq,by simp only[L8];exact⟨J5 oo,trivial⟩⟩
   .exact⟨hn,by simp[L8]⟩
 exact aem hrec D _ _ _ _ _ nl ht.1 ht.2 h
omit hrec in
theorem ahm{D:Nat}{l r:List Nd}{c:Nat}(hn:depth l<=D)(h:gU l=some (c,r)):depth r<=D:=by
 have hs:∀x∈r,x∈l:=by
  unfold gU at h;split at h
  .split at h
   .cases h
   .cases h;simp
  .rename_i n q hq;have h1:∀x∈n::q,x∈l:=fun x hx=>ku l x (by rw[hq];exact hx);have h2:∀x∈aH q,x∈l:=fun x hx=>h1 x (List.mem_cons_of_mem _ (ku q x hx));split at h
   .cases h;exact h2
   split at h
   .cases h;exact h2
   split at h
   .cases h;exact h2
   split at h
   .cases h;exact h1
   .cases h
 exact qh fun n hn'=>mG hn n (hs n hn')
theorem J6{D:Nat}:∀(f b:Nat) (l:List Nd) (ss:List Step),depth l<=D->bD rec f b l=some ss->ddC ss D
 |0,_,_,_,_,h=>by simp[bD]at h
 |f+1,b,l,ss,hn,h=>by
  unfold bD at h;split at h
  .cases h
  .rename_i all r hc;have h1:=Ub hrec hn hc;split at h
   .cases h
   .split at h
    .cases h;simp only[ddC,ddT];exact⟨h1.1,trivial⟩
    .split at h
     .cases h
     .rename_i c r' hcb;have h2:=ahm h1.2 hcb;cases hx:bD rec f c r' with
      |none=>rw[hx]at h;cases h
      |some x=>rw[hx]at h;simp at h;subst h;simp only[ddC,ddT];exact⟨h1.1,J6 f c r' x h2 hx⟩
theorem Zg{D:Nat}:∀(ps:List (List Nd)) (ss:bY),(∀p∈ps,depth p<=D)->fZ rec ps=some ss->TW ss D
 |[],ss,_,h=>by simp[fZ]at h;subst h;simp[TW]
 |p::r,ss,hp,h=>by
  unfold fZ at h;split at h
  .cases h
  .rename_i s hs;cases hx:fZ rec r with
   |none=>rw[hx]at h;cases h
   |some x=>rw[hx]at h;simp at h;subst h;simp only[TW];have hb:depth (bare p)<=D:=qh fun n hn=>mG (hp p Ab) n (nP p n hn);exact⟨J6 hrec _ _ _ _ hb hs,Zg r x (fun q hq=>hp q (by simp[hq])) hx⟩
end
theorem Pz{D:Nat}:∀(l:List Nd) (out:List (List Nd)) (cur:List Nd),(∀p∈out,depth p<=D)->(∀n∈cur,eU n<=D)->(∀n∈l,eU n<=D)->∀p∈iZ out cur l,depth p<=D
 |[],out,cur,ho,hc,_=>by
  unfold iZ;intro p hp;rcases List.mem_append.1 hp with hp|hp
  .exact ho p hp
  .rw[List.mem_singleton.1 hp];exact qh hc
 |n::r,out,cur,ho,hc,hl=>by
  unfold iZ;split
  .refine Pz r _ _ (fun p hp=>?_) Ab fun m hm=>hl m (by simp[hm]);rcases List.mem_append.1 hp with hp|hp
   .exact ho p hp
   .rw[List.mem_singleton.1 hp];exact qh hc
  .refine Pz r _ _ ho (fun m hm=>?_) fun m hm=>hl m (by simp[hm]);rcases List.mem_append.1 hm with hm|hm
   .exact hc m hm
   .rw[List.mem_singleton.1 hm];exact hl n Ab
theorem Zh{rec:List Nd->Option bY}(hrec:∀l ss D,rec l=some ss->depth l<=D->TW ss D){D:Nat}{l:List Nd}{ss:bY}(h:oz rec l=some ss)(hn:depth l<=D):TW ss D:=by
 unfold oz at h;split at h
 .cases h
 .exact Zg hrec _ _ (Pz l [] [] Ab Ab (mG hn)) h
theorem aen:∀(f:Nat) (l:List Nd) (ss:bY) (D:Nat),lM f l=some ss->depth l<=D->TW ss D
 |0,l,ss,D,h,hn=>Zh (rec:=fun _=>none) (fun _ _ _ h=>by cases h) h hn
 |f+1,l,ss,D,h,hn=>Zh (rec:=lM f) (fun l ss D h1 h2=>aen f l ss D h1 h2) h hn
end
def sJ(ts:List Tok)(ns:List Nd):Prop:=∀(e:BY) (rest:List Tok),(e≠aA->∀n∈ns,au n.t e=false)->kids e (ts++rest)=(ns++(kids e rest).1,(kids e rest).2)
theorem sJ.nil:sJ [] []:=fun _ _ _=>rfl
theorem sJ.append{a b:List Tok}{na nb:List Nd}(h:sJ a na)(k:sJ b nb):sJ (a++b) (na++nb):=by intro e rest hn;rw[List.append_assoc,h e _ (fun he n hm=>hn he n (by simp[hm])),k e rest (fun he n hm=>hn he n (by simp[hm])),List.append_assoc]
theorem Zi{e:BY}{t:Tok}{k:List Nd}(hn:e≠aA->∀n∈[Nd.mk t k],au n.t e=false):¬(e≠aA/\au t e=true):=fun hh=>by have:=hn hh.1 (.mk t k) Ab;rw[Nd.Qq,hh.2]at this;cases this
theorem sJ.leaf{t:Tok}(h:closing t=aA):sJ [t] [.mk t []]:=by intro e rest hn;rw[List.singleton_append,iy (Zi hn),sU h];rfl
theorem sJ.block{t:Tok}{ts:List Tok}{ns:List Nd}(h:sJ ts ns)(hc:closing t≠aA)(hs:∀n∈ns,au n.t (closing t)=false):sJ (t::(ts++[Tok.w 15 (closing t)])) [.mk t ns]:=by
 intro e rest hn;have hi:inside t ((ts++[Tok.w 15 (closing t)])++rest)=(ns,rest):=by unfold inside;rw[if_neg hc,List.append_assoc,h _ _ (fun _=>hs),List.singleton_append,qX ⟨hc,by simp[au,Tok.w]⟩,List.append_nil]
 rw[List.cons_append,iy (Zi hn),hi];rfl
theorem yF{c d:UInt8}(h:b1 c=b1 d):c=d:=by have:=congrArg (fun x=>x.data.toList) h;simpa[b1]using this
theorem wE{c:UInt8}(h:c≠40/\c≠91/\c≠123):closing (Tok.w 15 (b1 c))=aA:=by unfold closing;rw[if_neg (by simp[Tok.w]),if_pos (by rfl),show(Tok.w 15 (b1 c)).word=b1 c from rfl,if_neg (fun e=>h.1 (yF e)),if_neg (fun e=>h.2.1 (yF e)),if_neg (fun e=>h.2.2 (yF e))]
theorem dV{t:Tok}(h:t.kind≠11/\t.kind≠15):closing t=aA:=by unfold closing;rw[if_neg h.1,if_neg h.2]
def DK(L:List UInt8)(n:Nd):Prop:=n.t.kind=15->∃c∈L,n.t.word=b1 c
theorem DK.no{L:List UInt8}{n:Nd}{d:UInt8}(h:DK L n)(hd:d ∉ L):au n.t (b1 d)=false:=by
 cases hs:au n.t (b1 d)with
 |false=>rfl
 |true=>unfold au at hs;simp only[Bool.and_eq_true,decide_eq_true_eq]at hs;obtain⟨c,hc,e⟩:=h hs.1;rw[hs.2]at e;exact absurd (yF e ▸ hc) hd
theorem DK.mono{L M:List UInt8}{n:Nd}(h:DK L n)(hs:∀c∈L,c∈M):DK M n:=fun hk=>by obtain⟨c,hc,e⟩:=h hk;exact⟨c,hs c hc,e⟩
theorem kC(a b:List Nd):depth (a++b)=max (depth a) (depth b):=by
 induction a with
 |nil=>simp[depth]
 |cons n r ih=>rw[List.cons_append,dU,dU,ih];omega
theorem NH:depth ([]:List Nd)=0:=by simp[depth]
theorem qj(t:Tok)(k:List Nd):eU (.mk t k)=if closing t=aA then 0 else depth k+1:=by rw[eU]
theorem wF{t:Tok}(h:closing t=aA):depth [Nd.mk t []]=0:=by rw[dU,qj,if_pos h];simp[depth]
theorem zu{t:Tok}{ns:List Nd}{D:Nat}(h:depth ns+1<=D):depth [Nd.mk t ns]<=D:=by
 rw[dU,qj];have:depth ([]:List Nd)=0:=by simp[depth]
 split<;>omega
def su(D:Nat)(L:List UInt8)(ps:List Pc):Prop:=∃ns,sJ (dA ps) ns/\(∀n∈ns,DK L n)/\depth ns<=D
theorem su.nil(D:Nat)(L:List UInt8):su D L []:=⟨[],sJ.nil,by simp,by simp[depth]⟩
theorem su.append{D:Nat}{L:List UInt8}{a b:List Pc}(h:su D L a)(k:su D L b):su D L (a++b):=by
 obtain⟨na,h1,h2,h3⟩:=h;obtain⟨nb,k1,k2,k3⟩:=k;refine⟨na++nb,by rw[cO];exact h1.append k1,fun n hn=>?_,by rw[kC];omega⟩;rcases List.mem_append.1 hn with hn|hn
 .exact h2 n hn
 .exact k2 n hn
theorem su.mono{D:Nat}{L M:List UInt8}{a:List Pc}(h:su D L a)(hs:∀c∈L,c∈M):su D M a:=by obtain⟨na,h1,h2,h3⟩:=h;exact⟨na,h1,fun n hn=>(h2 n hn).mono hs,h3⟩
theorem qA{n:Int}{x:BY}(h:n≠11/\n≠15):(Tok.w n x).kind≠11/\(Tok.w n x).kind≠15:=h
theorem wY{n:Int}(h:n≠11/\n≠15):(Tok.k n).kind≠11/\(Tok.k n).kind≠15:=h
theorem nX{q:Pc}{t:Tok}(ht:q.tok=some t)(hk:t.kind≠11/\t.kind≠15):sJ (dA [q]) [.mk t []]:=by
 have e:dA [q]=[t]:=by unfold dA;rw[List.filterMap_cons,ht];rfl
 rw[e];exact sJ.leaf (dV hk)
theorem iF{D:Nat}{L:List UInt8}{q:Pc}{t:Tok}(ht:q.tok=some t)(hk:t.kind≠11/\t.kind≠15):su D L [q]:=⟨_,nX ht hk,fun n hn h=>by rw[List.mem_singleton.1 hn]at h;exact absurd h hk.2,by rw[wF (dV hk)];omega⟩
theorem J7{c:UInt8}(h:c≠40/\c≠91/\c≠123):sJ (dA [.sign c]) [.mk (Tok.w 15 (b1 c)) []]:=sJ.leaf (wE h)
theorem uM{D:Nat}{L:List UInt8}{c:UInt8}(h:c≠40/\c≠91/\c≠123)(hc:c∈L):su D L [.sign c]:=⟨_,J7 h,fun n hn _=>by rw[List.mem_singleton.1 hn];exact⟨c,hc,rfl⟩,by rw[wF (wE h)];omega⟩
theorem su.cons{D:Nat}{L:List UInt8}{q:Pc}{l:List Pc}(h:su D L [q])(k:su D L l):su D L (q::l):=h.append (a:=[q]) k
theorem abe{p:aF}{t:Tok}{k:List Nd}(h:vT p t k)(e:t.kind=15):t.word≠b1 41/\t.word≠b1 93/\t.word≠b1 125/\t.word≠b1 59:=by
 have hh:=h.harm;unfold oI at hh;rw[if_neg oo,if_pos e]at hh;rcases jo e with c|⟨c,_⟩|⟨c,_⟩|⟨c,_⟩
 .rw[c]at hh;simp only[decide_true,Bool.not_true,Bool.false_or]at hh;unfold vk at hh;simp only[Bool.or_eq_true,decide_eq_true_eq]at hh;rcases hh with (((((((h|h)|h)|h)|h)|h)|h)|h)|h<;>rw[h]<;>refine⟨?_,?_,?_,?_⟩<;>(intro e;exact absurd (yF e) Al)
 .rw[c];refine⟨?_,?_,?_,?_⟩<;>(intro e;exact absurd (yF e) Al)
 .rw[c];refine⟨?_,?_,?_,?_⟩<;>(intro e;exact absurd (yF e) Al)
 .rw[c];refine⟨?_,?_,?_,?_⟩<;>(intro e;exact absurd (yF e) Al)
theorem abf{t:Tok}(e:t.kind=15):closing (Tok.w 15 t.word)=closing t:=by unfold closing;rw[if_neg (by simp[Tok.w]),if_pos (by rfl),if_neg (show ¬t.kind=11 by omega),if_pos e];rfl
theorem yG{p:aF}{l ns:List Nd}(hl:vL p l)(hn:∀m∈ns,m.t.kind=15->∃n∈l,n.t.kind=15/\n.t.word=m.t.word)(d:UInt8)(hd:d=41\/d=93\/d=125):∀m∈ns,au m.t (b1 d)=false:=by
 intro m hm;cases hs:au m.t (b1 d)with
 |false=>rfl
 |true=>
  exfalso
  unfold au at hs;simp only[Bool.and_eq_true,decide_eq_true_eq]at hs;obtain⟨n,h1,h2,h3⟩:=hn m hm hs.1;have:=abe ((EJ p n).1 ((Xf p l).1 hl n h1)).1 h2;rw[h3,hs.2]at this;rcases hd with rfl|rfl|rfl
  .exact this.1 rfl
  .exact this.2.1 rfl
  .exact this.2.2.1 rfl
mutual
theorem ndN(p:aF):∀(n:Nd),vN p n->∃m,sJ (dA (pcN n)) [m]/\(m.t.kind=15->n.t.kind=15/\n.t.word=m.t.word)/\eU m<=eU n
 |.mk t k,h=>by
  simp only[vN]at h;have hv:=h.1;obtain⟨ns,ih,ih2,ih3⟩:=ndF p none k h.2;have lf:∀(u:Tok),closing u=aA->eU (.mk u [])<=eU (.mk t k):=fun u hu=>by rw[qj,if_pos hu];omega
  have bl:∀(u:Tok),closing t≠aA->eU (.mk u ns)<=eU (.mk t k):=fun u hu=>by rw[qj,qj,if_neg hu];split<;>omega
  rw[Bc];simp only[Nd.Qq,Nd.BK];rcases hv.kinds with e|e|e|e|e|e|e|e|e
  .rw[Y5 _ e];exact⟨_,nX rfl (wY Al),(fun h=>by cases h),lf _ (dV (by first|exact qA Al|exact wY Al|exact(show(7:Int)≠11/\(7:Int)≠15 by decide)))⟩
  .rw[Tc _ e];exact⟨_,nX rfl (qA Al),(fun h=>by cases h),lf _ (dV (by first|exact qA Al|exact wY Al|exact(show(7:Int)≠11/\(7:Int)≠15 by decide)))⟩
  .rw[adA _ e];exact⟨_,nX rfl (qA Al),(fun h=>by cases h),lf _ (dV (by first|exact qA Al|exact wY Al|exact(show(7:Int)≠11/\(7:Int)≠15 by decide)))⟩
  .rw[adB _ e];exact⟨_,nX rfl (qA Al),(fun h=>by cases h),lf _ (dV (by first|exact qA Al|exact wY Al|exact(show(7:Int)≠11/\(7:Int)≠15 by decide)))⟩
  .rw[adC _ e];exact⟨_,nX rfl (qA Al),(fun h=>by cases h),lf _ (dV (by first|exact qA Al|exact wY Al|exact(show(7:Int)≠11/\(7:Int)≠15 by decide)))⟩
  .rw[adD _ e];exact⟨_,nX rfl (show(7:Int)≠11/\(7:Int)≠15 by decide),(fun h=>by cases h),lf _ (dV (by first|exact qA Al|exact wY Al|exact(show(7:Int)≠11/\(7:Int)≠15 by decide)))⟩
  .rw[Xh _ e];have hc:closing (Tok.w 11 (vZ t.word))=b1 41:=rfl;have e2:dA (.func t.word::(zZ none k++[.sign 41]))=Tok.w 11 (vZ t.word)::(dA (zZ none k)++[Tok.w 15 (closing (Tok.w 11 (vZ t.word)))]):=by
    rw[hc];show Tok.w 11 (vZ t.word)::dA (zZ none k++[.sign 41])=_;rw[cO];rfl
   rw[e2];exact⟨_,ih.block (by rw[hc];exact OW 41) (by rw[hc];exact yG h.2 ih2 41 (.inl rfl)),(fun h=>by cases h),bl _ (by unfold closing;rw[if_pos e];decide)⟩
  .rw[Xi _ e];exact⟨_,nX rfl (qA Al),(fun h=>by cases h),lf _ (dV (by first|exact qA Al|exact wY Al|exact(show(7:Int)≠11/\(7:Int)≠15 by decide)))⟩
  .rw[EK _ e];have hw:=(Xe (hv.ok.sign e)).2;have e3:Tok.w 15 (b1 (bt t.word))=Tok.w 15 t.word:=by rw[<-hw]
   have hcw:=abf e;by_cases hc:closing t=aA
   .have hk:=hv.leaf hc;rw[hk,zl];have e2:dA (.sign (bt t.word)::([]++SV t))=[Tok.w 15 t.word]:=by
     unfold SV;rw[if_pos hc,<-e3];rfl
    rw[e2];exact⟨_,sJ.leaf (by rw[hcw];exact hc),fun _=>⟨e,rfl⟩,by have:=lf (Tok.w 15 t.word) (by rw[hcw];exact hc);rwa[hk]at this⟩
   .have e2:dA (.sign (bt t.word)::(zZ none k++SV t))=Tok.w 15 t.word::(dA (zZ none k)++[Tok.w 15 (closing (Tok.w 15 t.word))]):=by
     show Tok.w 15 (b1 (bt t.word))::dA (zZ none k++SV t)=_;rw[cO,e3,hcw];congr 2
     unfold SV;rw[if_neg hc];show [Tok.w 15 (b1 (bt (closing t)))]=_;have:(closing t).size=1:=by
      rcases jo e with q|⟨_,q⟩|⟨_,q⟩|⟨_,q⟩
      .exact absurd q hc
      all_goals rw[q];rfl
     rw[<-(Xe this).2]
    rw[e2];refine⟨_,ih.block (by rw[hcw];exact hc) ?_,fun _=>⟨e,rfl⟩,bl _ hc⟩;rw[hcw];rcases jo e with q|⟨_,q⟩|⟨_,q⟩|⟨_,q⟩
    .exact absurd q hc
    .rw[q];exact yG h.2 ih2 41 (.inl rfl)
    .rw[q];exact yG h.2 ih2 93 (.inr (.inl rfl))
    .rw[q];exact yG h.2 ih2 125 (.inr (.inr rfl))
theorem ndF(p:aF):∀(a:Option Tok) (l:List Nd),vL p l->∃ns,sJ (dA (zZ a l)) ns/\(∀m∈ns,m.t.kind=15->∃n∈l,n.t.kind=15/\n.t.word=m.t.word)/\depth ns<=depth l
 |_,[],_=>by rw[zl];exact⟨[],sJ.nil,by simp,by simp[depth]⟩
 |a,n::r,h=>by
  simp only[vL]at h;obtain⟨m,h1,h2,h2'⟩:=ndN p n h.1;obtain⟨ns,h3,h4,h4'⟩:=ndF p (some n.t) r h.2;have hdc:=dU n r;rw[rQ,cO];have h5:∀m∈ns,m.t.kind=15->∃q∈n::r,q.t.kind=15/\q.t.word=m.t.word:=fun x hx hk=>by obtain⟨q,q1,q2⟩:=h4 x hx hk;exact⟨q,List.mem_cons_of_mem _ q1,q2⟩
  split
  .exact⟨ns,h3,h5,oo⟩
  .rw[cO];have hg:dA (SX a n.t)=[]:=by
    unfold SX;split
    .rfl
    .split<;>rfl
   rw[hg,List.nil_append];refine⟨[m]++ns,h1.append h3,fun x hx hk=>?_,by rw[kC,dU,hdc,NH];omega⟩;rcases List.mem_append.1 hx with hx|hx
   .rw[List.mem_singleton.1 hx]at hk⊢;exact⟨n,by simp,h2 hk⟩
   .exact h5 x hx hk
end
def DL:List UInt8:=[46,91,58,42,62,43,126]
def abg(n:Nd):Prop:=n.t.kind=14\/n.t.kind=4\/(n.t.kind=15/\∃c∈([46,91,58,42]:List UInt8),n.t.word=b1 c)
def NdF(D:Nat)(ps:List Pc):Prop:=∃n r,sJ (dA ps) (n::r)/\(∀m∈n::r,DK DL m)/\abg n/\depth (n::r)<=D
theorem NdF.t{D:Nat}{ps:List Pc}(h:NdF D ps):su D DL ps:=by obtain⟨n,r,h1,h2,_,h4⟩:=h;exact⟨_,h1,h2,h4⟩
theorem NdF.append{D:Nat}{a b:List Pc}(h:NdF D a)(k:su D DL b):NdF D (a++b):=by
 obtain⟨n,r,h1,h2,h3,h4⟩:=h;obtain⟨nb,k1,k2,k3⟩:=k;refine⟨n,r++nb,by rw[cO];exact h1.append k1,fun m hm=>?_,h3,by rw[<-List.cons_append,kC];omega⟩;rw[<-List.cons_append]at hm;rcases List.mem_append.1 hm with hm|hm
 .exact h2 m hm
 .exact k2 m hm
theorem Uc{D:Nat}{q:Pc}{t:Tok}(ht:q.tok=some t)(hk:t.kind=14\/t.kind=4):NdF D [q]:=⟨_,_,nX ht oo,fun n hn h=>by rw[List.mem_singleton.1 hn]at h;simp only[Nd.Qq]at h;omega,hk.elim .inl fun h=>.inr (.inl h),by rw[wF (dV oo)];omega⟩
theorem yH{D:Nat}{c:UInt8}(h:c=46\/c=58\/c=42):NdF D [.sign c]:=⟨_,_,J7 (by rcases h with rfl|rfl|rfl<;>decide),fun n hn _=>by rw[List.mem_singleton.1 hn];exact⟨c,by rcases h with rfl|rfl|rfl<;>decide,rfl⟩,.inr (.inr ⟨rfl,c,by rcases h with rfl|rfl|rfl<;>decide,rfl⟩),by rw[wF (wE (by rcases h with rfl|rfl|rfl<;>decide))];omega⟩
theorem Zj{d D:Nat}(hD:d+1<=D){l:List Pc}{L:List UInt8}(h:su d L l)(hL:93 ∉ L):NdF D (.sign 91::(l++[.sign 93])):=by
 obtain⟨ns,h1,h2,h3⟩:=h;have hc:closing (Tok.w 15 (b1 91))=b1 93:=by decide
 have e:dA (.sign 91::(l++[.sign 93]))=Tok.w 15 (b1 91)::(dA l++[Tok.w 15 (closing (Tok.w 15 (b1 91)))]):=by rw[hc];show Tok.w 15 (b1 91)::dA (l++[.sign 93])=_;rw[cO];rfl
 refine⟨_,_,by rw[e];exact h1.block (by rw[hc];exact OW 93) (by rw[hc];exact fun n hn=>(h2 n hn).no hL),fun n hn _=>by rw[List.mem_singleton.1 hn];exact⟨91,by decide,rfl⟩,.inr (.inr ⟨rfl,91,by decide,rfl⟩),zu oo⟩
theorem Ud{d D:Nat}(hD:d+1<=D){w:BY}{l:List Pc}{L M:List UInt8}(h:su d L l)(hL:41 ∉ L):su D M (.func w::(l++[.sign 41])):=by
 obtain⟨ns,h1,h2,h3⟩:=h;have hc:closing (Tok.w 11 (vZ w))=b1 41:=rfl;have e:dA (.func w::(l++[.sign 41]))=Tok.w 11 (vZ w)::(dA l++[Tok.w 15 (closing (Tok.w 11 (vZ w)))]):=by rw[hc];show Tok.w 11 (vZ w)::dA (l++[.sign 41])=_;rw[cO];rfl
 exact⟨_,by rw[e];exact h1.block (by rw[hc];exact OW 41) (by rw[hc];exact fun n hn=>(h2 n hn).no hL),(fun n hn hk=>by rw[List.mem_singleton.1 hn]at hk;cases hk),zu oo⟩
theorem aeo{D:Nat}(hD:1<=D){name how value:BY}(hh:wL how):NdF D (CU name how value):=by
 unfold CU;split
 .exact Zj (d:=0) hD (l:=[.ident name]) (L:=[]) (iF rfl (qA Al)) Al
 .have hs:∀(l:List UInt8),(∀c∈l,c∈([61,126,94,36,42]:List UInt8))->su 0 [61,126,94,36,42] (l.map Pc.sign):=by
   intro l;induction l with
   |nil=>intro _;exact su.nil _ _
   |cons c r ih=>intro hc;have h0:=hc c Ab;refine su.cons (uM ?_ h0) (ih fun x hx=>hc x (by simp[hx]));simp only[List.mem_cons,List.not_mem_nil,or_false]at h0;rcases h0 with rfl|rfl|rfl|rfl|rfl<;>decide
  have hw:∀c∈how.data.toList,c∈([61,126,94,36,42]:List UInt8):=by rcases hh with rfl|rfl|rfl|rfl|rfl|rfl<;>decide
  have h1:su 0 [61,126,94,36,42] (.ident name::(how.data.toList.map Pc.sign++[.text value])):=su.cons (iF rfl (qA Al)) ((hs _ hw).append (iF rfl (qA Al)));have h2:=Zj (D:=D) hD h1 Al;have e:(Pc.ident name::(how.data.toList.map Pc.sign++[.text value]))++[.sign 93]=.ident name::(how.data.toList.map Pc.sign++[.text value,.sign 93]):=by simp
  rw[e]at h2;exact h2
theorem abh[bV](n:Nat):su 0 [] [yA n]:=by
 unfold yA;split
 .exact iF rfl (qA Al)
 .split
  .exact iF rfl (qA Al)
  .exact iF rfl (qA Al)
theorem aep{D b:Nat}(h:Io b):su D DL (Iy b):=by
 rcases h with rfl|rfl|rfl|rfl
 .exact iF rfl (wY Al)
 .exact su.cons (iF rfl (wY Al)) (su.cons (uM (c:=62) Al Al) (iF rfl (wY Al)))
 .exact su.cons (iF rfl (wY Al)) (su.cons (uM (c:=43) Al Al) (iF rfl (wY Al)))
 .exact su.cons (iF rfl (wY Al)) (su.cons (uM (c:=126) Al Al) (iF rfl (wY Al)))
mutual
theorem ndS[bV]:∀(s:Simple) (D:Nat),Tf s->ddS s D->NdF D (pcS s)
 |.mk kind name how value list place,D,h,hd=>by
  simp only[Tf]at h;simp only[ddS]at hd;unfold pcS;split
  .split
   .exact yH (.inr (.inr rfl))
   .exact Uc rfl (.inl rfl)
  .rename_i k1;split
   .exact Uc rfl (.inr rfl)
   .rename_i k2;split
    .exact(yH (c:=46) (.inl rfl)).append (b:=[.ident name]) (iF rfl (qA Al))
    .rename_i k3;split
     .rename_i k4;refine aeo (hd.1 k4) ?_;rcases h.1 with h|h|h|h
      .exact absurd h k1
      .omega
      .exact h.2.2
      .omega
     .rename_i k4;have hd2:=hd.2 ⟨k1,k2,k3,k4⟩;split
      .rename_i hn;have hd3:=hd2.1 hn;have ih:=ndL list (D-1) h.2.2 hd3.2;exact(yH (c:=58) (.inr (.inl rfl))).append (b:=.func name::(Vh [] list++[.sign 41])) (Ud (d:=D-1) (D:=D) (by have:=hd3.1;omega) ih Al)
      .split
       .rename_i hn;have hd3:=hd2.2 hn;exact(yH (c:=58) (.inr (.inl rfl))).append (b:=.func name::([yA place]++[.sign 41])) (Ud (d:=0) (D:=D) oo (abh place) Al)
       .exact(yH (c:=58) (.inr (.inl rfl))).append (b:=[.ident name]) (iF rfl (qA Al))
theorem ndA[bV]:∀(l:List Simple) (D:Nat),KQ l->L8 l D->su D DL (OZ l)
 |[],_,_,_=>by unfold OZ;exact su.nil _ _
 |s::r,D,h,hd=>by simp only[KQ]at h;simp only[L8]at hd;unfold OZ;exact(ndS s D h.1 hd.1).t.append (ndA r D h.2 hd.2)
theorem ndR[bV]:∀(l:List (Nat×List Simple)) (D:Nat),sfR l->ddC l D->su D DL (D8 l)
 |[],_,_,_=>by unfold D8;exact su.nil _ _
 |(b,all)::r,D,h,hd=>by simp only[sfR]at h;simp only[ddC,ddT]at hd;unfold D8 Xm;exact((aep h.1).append (ndA all D h.2.2.2.1 hd.1)).append (ndR r D h.2.2.2.2 hd.2)
theorem ndC[bV]:∀(l:List (Nat×List Simple)) (D:Nat),sfC l->ddC l D->NdF D (D8 l)
 |[],_,h,_=>by simp only[sfC]at h
 |(b,all)::r,D,h,hd=>by
  simp only[sfC]at h;simp only[ddC,ddT]at hd;have hb:Iy b=[]:=by rw[h.1];rfl
  unfold D8 Xm;rw[hb,List.nil_append];have hr:=ndR r D h.2.2.2.2 hd.2;match all,h.2.1,h.2.2.2.1,hd.1 with
  |s::q,_,hs,hq=>simp only[KQ]at hs;simp only[L8]at hq;unfold OZ;exact((ndS s D hs.1 hq.1).append (ndA q D hs.2 hq.2)).append hr
theorem ndL[bV]:∀(l:List (List (Nat×List Simple))) (D:Nat),F9 l->TW l D->su D (44::DL) (Vh [] l)
 |[],_,_,_=>by unfold Vh;exact su.nil _ _
 |c::r,D,h,hd=>by simp only[F9]at h;simp only[TW]at hd;unfold Vh;exact(su.nil _ _).append (((ndC c D h.1 hd.1).t.mono (fun x hx=>List.mem_cons_of_mem _ hx)).append (alR r D h.2 hd.2))
theorem alR[bV]:∀(l:List (List (Nat×List Simple))) (D:Nat),F9 l->TW l D->su D (44::DL) (uH [] l)
 |[],_,_,_=>by unfold uH;exact su.nil _ _
 |c::r,D,h,hd=>by simp only[F9]at h;simp only[TW]at hd;unfold uH;exact su.cons (uM Al Al) ((su.nil _ _).append (((ndC c D h.1 hd.1).t.mono (fun x hx=>List.mem_cons_of_mem _ hx)).append (alR r D h.2 hd.2)))
end
def aix:Nd:=.mk (Tok.w 15 (b1 44)) []
def uO(PA:List Nd):List (List Nd)->List Nd
 |[]=>[]
 |x::r=>aix::(PA++(x++uO PA r))
def pI(PA:List Nd):List (List Nd)->List Nd
 |[]=>[]
 |x::r=>PA++(x++uO PA r)
def L9(D:Nat)(x:List Nd):Prop:=∃n r,x=n::r/\(∀m∈x,DK DL m)/\abg n/\depth x<=D
theorem aj0[bV](pa:List Pc)(PA:List Nd)(hpa:sJ (dA pa) PA):∀(l:List (List (Nat×List Simple))) (D:Nat),F9 l->TW l D->∃xs:List (List Nd),xs.length=l.length/\sJ (dA (Vh pa l)) (pI PA xs)/\∀x∈xs,L9 D x
 |[],_,_,_=>by unfold Vh;exact⟨[],rfl,sJ.nil,by simp⟩
 |c::r,D,h,hd=>by
  simp only[F9]at h;simp only[TW]at hd;obtain⟨n,q,h1,h2,h3⟩:=ndC c D h.1 hd.1;have hl:∀(l:List (List (Nat×List Simple))),F9 l->TW l D->∃xs:List (List Nd),xs.length=l.length/\sJ (dA (uH pa l)) (uO PA xs)/\∀x∈xs,L9 D x:=by
   intro l;induction l with
   |nil=>intro _ _;unfold uH;exact⟨[],rfl,sJ.nil,by simp⟩
   |cons c r ih=>
    intro h hd;simp only[F9]at h;simp only[TW]at hd;obtain⟨n,q,h1,h2,h3⟩:=ndC c D h.1 hd.1;obtain⟨xs,h0,h4,h5⟩:=ih h.2 hd.2;unfold uH;refine⟨(n::q)::xs,by simp[h0],?_,fun x hx=>?_⟩
    .have e:dA (.sign 44::(pa++(D8 c++uH pa r)))=dA [.sign 44]++(dA pa++(dA (D8 c)++dA (uH pa r))):=by
      rw[<-cO,<-cO,<-cO];rfl
     rw[e];exact(J7 Al).append (hpa.append (h1.append h4))
    .rcases List.mem_cons.1 hx with rfl|hx
     .exact⟨n,q,rfl,h2,h3⟩
     .exact h5 x hx
  obtain⟨xs,h0,h4,h5⟩:=hl r h.2 hd.2;unfold Vh;refine⟨(n::q)::xs,by simp[h0],?_,fun x hx=>?_⟩
  .rw[cO,cO];exact hpa.append (h1.append h4)
  .rcases List.mem_cons.1 hx with rfl|hx
   .exact⟨n,q,rfl,h2,h3⟩
   .exact h5 x hx
theorem yI:∀(a rest:List Nd) (out:List (List Nd)) (cur:List Nd),(∀n∈a,dN n (b1 44)=false)->iZ out cur (a++rest)=iZ out (cur++a) rest
 |[],rest,out,cur,_=>by rw[List.nil_append,List.append_nil]
 |n::r,rest,out,cur,h=>by
  rw[List.cons_append];conv=>lhs;unfold iZ
  rw[if_neg (by rw[h n (by simp)];simp),yI r rest out _ (fun m hm=>h m (by simp[hm])),List.append_assoc];rfl
theorem J8(PA:List Nd)(hPA:∀n∈PA,dN n (b1 44)=false):∀(xs:List (List Nd)) (out:List (List Nd)) (cur:List Nd),(∀x∈xs,∀n∈x,dN n (b1 44)=false)->iZ out cur (uO PA xs)=out++cur::xs.map (fun x=>PA++x)
 |[],out,cur,_=>by unfold uO iZ;simp
 |x::r,out,cur,h=>by
  unfold uO;conv=>lhs;unfold iZ
  rw[if_pos (by decide),yI PA _ _ _ hPA,yI x _ _ _ (h x (by simp)),List.nil_append,J8 PA hPA r _ _ (fun y hy=>h y (by simp[hy]))];simp
theorem Ue(PA:List Nd)(hPA:∀n∈PA,dN n (b1 44)=false)(xs:List (List Nd))(hx:∀x∈xs,∀n∈x,dN n (b1 44)=false)(hne:xs≠[]):parted (pI PA xs)=xs.map (fun x=>PA++x):=by
 match xs,hne with
 |x::r,_=>unfold parted pI;rw[yI PA _ _ _ hPA,yI x _ _ _ (hx x (by simp)),List.nil_append,J8 PA hPA r _ _ (fun y hy=>hx y (by simp[hy]))];rfl
theorem Bl{n:Nd}{r:List Nd}(h:iH n=false):aH (n::r)=n::r:=by unfold aH;rw[if_neg (by rw[h];simp)]
theorem NI{n:Nd}(h:iH n=false):∀(a b:List Nd),∃q,aH (a++n::b)=q++n::b
 |[],b=>⟨[],Bl h⟩
 |m::r,b=>by
  rw[List.cons_append];unfold aH;split
  .exact NI h r b
  .exact⟨m::r,rfl⟩
theorem aer{d n:Nd}(hd:iH d=false)(hn:iH n=false)(a r:List Nd):∃q,bare (d::(a++n::r))=d::(a++n::q):=by
 unfold bare lJ;rw[Bl hd];have e:(d::(a++n::r)).reverse=r.reverse++n::(a.reverse++[d]):=by simp
 rw[e];obtain⟨q,hq⟩:=NI hn r.reverse (a.reverse++[d]);rw[hq];exact⟨q.reverse,by simp⟩
def abj(c:Nat):Prop:=c=32\/c=62\/c=43\/c=126
def Pre(root:BY)(cx:List Step):Prop:=∃c rest,cx=(0,[Simple.of 46 root])::(32,c)::rest/\∀st∈rest,abj st.1
theorem aes{l r:List Nd}{c:Nat}(h:gU l=some (c,r)):abj c:=by
 unfold abj;unfold gU at h;split at h
 .split at h
  .cases h
  .cases h;decide
 .split at h
  .cases h;decide
  split at h
  .cases h;decide
  split at h
  .cases h;decide
  split at h
  .cases h;decide
  .cases h
theorem Aa(rec:List Nd->Option bY):∀(f b:Nat) (l:List Nd) (x:List Step),bD rec f b l=some x->∃all rest,x=(b,all)::rest/\∀st∈rest,abj st.1
 |0,_,_,_,h=>by simp[bD]at h
 |f+1,b,l,x,h=>by
  unfold bD at h;split at h
  .cases h
  .rename_i all r hc;split at h
   .cases h
   .split at h
    .cases h;exact⟨all,[],rfl,by simp⟩
    .split at h
     .cases h
     .rename_i c r' hcb;cases hx:bD rec f c r' with
      |none=>rw[hx]at h;cases h
      |some y=>
       rw[hx]at h;simp at h;subst h;obtain⟨all2,rest,rfl,hr⟩:=Aa rec f c r' y hx;refine⟨all,_,rfl,fun st hst=>?_⟩;rcases List.mem_cons.1 hst with rfl|hst
       .exact aes hcb
       .exact hr st hst
def abk:Nd:=.mk (Tok.w 15 (b1 46)) []
def Bo(root:BY):Nd:=.mk (Tok.w 14 root) []
def PD:Nd:=.mk (Tok.k 1) []
def zH(root:BY):List Nd:=[abk,Bo root,PD]
theorem Uf{n:Nd}(h:abg n):iH n=false/\dN n (b1 62)=false/\dN n (b1 43)=false/\dN n (b1 126)=false:=by
 unfold abg at h;have key:∀d:UInt8,d ∉ ([46,91,58,42]:List UInt8)->dN n (b1 d)=false:=by
  intro d hd;rcases h with h|h|h
  .unfold dN au;simp[h]
  .unfold dN au;simp[h]
  .obtain⟨_,c,hc,e⟩:=h;exact DK.no (L:=[46,91,58,42]) (n:=n) (fun _=>⟨c,hc,e⟩) hd
 refine⟨?_,key 62 Al,key 43 Al,key 126 Al⟩;unfold iH;rcases h with h|h|h
 .simp[h]
 .simp[h]
 .simp[h.1]
theorem Ug(rec:List Nd->Option bY)(root:BY){n:Nd}{q:List Nd}(hn:abg n)(f:Nat)(x:List Step)(h:bD rec f 0 (zH root++n::q)=some x):Pre root x:=by
 obtain⟨h1,h2,h3,h4⟩:=Uf hn;cases f with
 |zero=>simp[bD]at h
 |succ f=>
  have hc:aZ rec (zH root++n::q)=some ([Simple.of 46 root],PD::n::q):=by
   have e1:kP (zH root++n::q)=([],zH root++n::q):=by show kP (abk::Bo root::PD::n::q)=_;unfold kP;simp only;rw[if_neg (by decide),if_neg (by decide)];rfl
   unfold aZ;rw[e1];show bZ rec [] (abk::Bo root::PD::n::q)=_;unfold bZ;rw[if_neg (by decide),if_pos (by decide),if_pos (by rfl)];unfold bZ;rw[if_neg (by decide),if_neg (by decide),if_neg (by decide),if_neg (by decide)];rfl
  have hcb:gU (PD::n::q)=some (32,n::q):=by
   have e:aH (PD::n::q)=n::q:=by unfold aH;rw[if_pos (by decide)];exact Bl h1
   unfold gU;rw[e];simp only;rw[if_neg (by rw[h2];simp),if_neg (by rw[h3];simp),if_neg (by rw[h4];simp),if_pos (by simp)]
  unfold bD at h;rw[hc]at h;simp only[hcb]at h;rw[if_neg (by simp),if_neg (by simp)]at h;cases hx:bD rec f 32 (n::q)with
  |none=>rw[hx]at h;cases h
  |some y=>rw[hx]at h;simp at h;subst h;obtain⟨all,rest,rfl,hr⟩:=Aa rec f 32 _ y hx;exact⟨all,rest,rfl,hr⟩
theorem NJ(rec:List Nd->Option bY):∀(ps:List (List Nd)) (ss:bY),fZ rec ps=some ss->∀c∈ss,∃p∈ps,je rec (bare p)=some c
 |[],ss,h,c,hc=>by simp[fZ]at h;subst h;cases hc
 |p::r,ss,h,c,hc=>by
  unfold fZ at h;split at h
  .cases h
  .rename_i s hs;cases hx:fZ rec r with
   |none=>rw[hx]at h;cases h
   |some y=>
    rw[hx]at h;simp at h;subst h;rcases List.mem_cons.1 hc with rfl|hc
    .exact⟨p,by simp,hs⟩
    .obtain⟨q,q1,q2⟩:=NJ rec r y hx c hc;exact⟨q,by simp[q1],q2⟩
theorem aj1(root:BY):∀n∈zH root,dN n (b1 44)=false:=by
 intro n hn;unfold zH at hn;simp only[List.mem_cons,List.not_mem_nil,or_false]at hn;rcases hn with rfl|rfl|rfl
 .decide
 .unfold dN au Bo;simp[Tok.w]
 .decide
theorem L9.no{D:Nat}{x:List Nd}(h:L9 D x):∀n∈x,dN n (b1 44)=false:=by obtain⟨_,_,_,h2,_⟩:=h;exact fun n hn=>(h2 n hn).no Al
theorem aeu{D:Nat}(root:BY){xs:List (List Nd)}(hx:∀x∈xs,L9 D x)(hne:xs≠[])(f:Nat)(ss:bY)(h:lM f (pI (zH root) xs)=some ss):∀cx∈ss,Pre root cx:=by
 have key:∀rec,oz rec (pI (zH root) xs)=some ss->∀cx∈ss,Pre root cx:=by
  intro rec h cx hc;unfold oz at h;rw[Ue _ (aj1 root) xs (fun x hm=>(hx x hm).no) hne]at h;split at h
  .cases h
  .obtain⟨p,hp,e⟩:=NJ rec _ ss h cx hc;obtain⟨x,hm,rfl⟩:=List.mem_map.1 hp;obtain⟨n,q,rfl,_,hf,_⟩:=hx x hm;obtain⟨q',hq⟩:=aer (d:=abk) (n:=n) Al (Uf hf).1 [Bo root,PD] q;have e2:bare (zH root++n::q)=zH root++n::q':=hq;unfold je at e;rw[e2]at e;exact Ug rec root hf _ cx e
 cases f with
 |zero=>exact key _ h
 |succ f=>exact key _ h
theorem J9(stop:Nd->Bool):∀(a:List Nd) (b:Nd) (r:List Nd),(∀n∈a,stop n=false)->stop b=true->bG stop (a++b::r)=(a,some b,r)
 |[],b,r,_,hb=>by show bG stop (b::r)=_;unfold bG;rw[if_pos hb]
 |n::a,b,r,h,hb=>by rw[List.cons_append];unfold bG;rw[if_neg (by rw[h n (by simp)];simp),J9 stop a b r (fun m hm=>h m (by simp[hm])) hb]
theorem Ko(sh:Bool){f:Nat}{l:List Nd}(h:l.length<=f):fM f sh l=rules sh l:=xQ sh f l.length l h nl
theorem abl{h:List Nd}{b:Nd}(hf:∀n q,h=n::q->oG true n=false/\n.t.kind≠10)(hb:∀m∈h,aK m=false)(hbb:aK b=true)(rest:List Nd):rules true (h++b::rest)=⟨none,h,some b.kids⟩::rules true rest:=by
 have acH:b.t.kind=15:=by unfold aK dN au at hbb;simp only[Bool.and_eq_true,decide_eq_true_eq]at hbb;exact hbb.1
 obtain⟨n,q,e,hn⟩:∃n q,h++b::rest=n::q/\oG true n=false/\n.t.kind≠10:=by
  match h,hf with
  |[],_=>exact⟨b,rest,rfl,by unfold oG iH;simp[acH],oo⟩
  |n::q,hf=>exact⟨n,q++b::rest,rfl,hf n q rfl⟩
 have hc:=J9 aK h b rest hb hbb;rw[e]at hc;rw[e];show fM (q.length+1) true (n::q)=_;unfold fM;rw[if_neg (by rw[hn.1];simp),if_neg hn.2,hc];simp only;rw[Ko true];have:=congrArg List.length e;simp only[List.length_append,List.length_cons]at this;omega
theorem aev{t:Nd}{h:List Nd}{b:Nd}(ht:t.t.kind=10)(hh:∀m∈h,(aS m||aK m)=false)(hbb:aK b=true)(rest:List Nd):rules true (t::(h++b::rest))=⟨some t.t.word,h,some b.kids⟩::rules true rest:=by have hc:=J9 (fun m=>aS m||aK m) h b rest hh (by simp[hbb]);show fM ((h++b::rest).length+1) true (t::(h++b::rest))=_;unfold fM;rw[if_neg (by unfold oG iH;simp[ht]),if_pos ht,hc];simp only;rw[Ko true (by simp only[List.length_append,List.length_cons];omega)];unfold gV;simp only;rw[if_pos hbb]
def oq(D:Nat)(C:Rule->Prop)(o:BY):Prop:=∃ps ns,o.data.toList=flat ps/\(∀X,Good ps X)/\sJ (dA ps) ns/\depth ns<=D/\(∀n∈ns,au n.t (b1 125)=false)/\∃rs,(∀rest,rules true (ns++rest)=rs++rules true rest)/\∀r∈rs,C r
theorem oq.nil(D:Nat)(C:Rule->Prop):oq D C aA:=⟨[],[],rfl,fun _=>trivial,sJ.nil,by simp[depth],by simp,[],fun _=>rfl,by simp⟩
theorem oq.append{D:Nat}{C:Rule->Prop}{a b:BY}(h:oq D C a)(k:oq D C b):oq D C (a++b):=by
 obtain⟨pa,na,a1,a2,a3,a0,a4,ra,a5,a6⟩:=h;obtain⟨pb,nb,c1,c2,c3,c0,c4,rb,c5,c6⟩:=k;refine⟨pa++pb,na++nb,by rw[kV,a1,c1,aN],fun X=>(a2 _).append (c2 X),by rw[cO];exact a3.append c3,by rw[kC];omega,fun n hn=>?_,ra++rb,fun rest=>?_,fun r hr=>?_⟩
 .rcases List.mem_append.1 hn with hn|hn
  .exact a4 n hn
  .exact c4 n hn
 .rw[List.append_assoc,a5,c5,List.append_assoc]
 .rcases List.mem_append.1 hr with hr|hr
  .exact a6 r hr
  .exact c6 r hr
theorem oq.cat{D:Nat}{C:Rule->Prop}:∀(l:List BY),(∀o∈l,oq D C o)->oq D C (cat l)
 |[],_=>oq.nil D C
 |a::r,h=>(h a Ab).append (oq.cat r fun o ho=>h o (by simp[ho]))
def bodyT:List UInt8:=[33,37,40,42,43,44,45,46,47,58,59,61,91,123]
def mJ(D:Nat)(C:List UInt8->Prop)(o:BY):Prop:=∃ps,o.data.toList=flat ps/\(∀X,C X->Good ps X)/\su D bodyT ps
theorem mJ.nil(D:Nat)(C:List UInt8->Prop):mJ D C aA:=⟨[],rfl,fun _ _=>trivial,su.nil _ _⟩
theorem mJ.append{k:Nat}{C D:List UInt8->Prop}{a b:BY}(ha:mJ k C a)(hb:mJ k D b)(h:∀X,D X->C (b.data.toList++X)):mJ k D (a++b):=by obtain⟨pa,a1,a2,a3⟩:=ha;obtain⟨pb,b1,b2,b3⟩:=hb;exact⟨pa++pb,by rw[kV,a1,b1,aN],fun X hX=>(a2 _ (by rw[<-b1];exact h X hX)).append (b2 X hX),a3.append b3⟩
theorem mJ.wide{k:Nat}{C D:List UInt8->Prop}{a:BY}(ha:mJ k C a)(h:∀X,D X->C X):mJ k D a:=by obtain⟨pa,a1,a2,a3⟩:=ha;exact⟨pa,a1,fun X hX=>a2 X (h X hX),a3⟩
theorem PE{D:Nat}(C:List UInt8->Prop){c:UInt8}(h:c∈lT/\c≠43/\c≠45/\c≠46/\c≠47)(h2:c≠40/\c≠91/\c≠123)(h3:c∈bodyT):mJ D C (b1 c):=⟨[.sign c],rfl,fun _ _=>fK h trivial,uM h2 h3⟩
theorem alS{p:aF}{t:Tok}{k:List Nd}(h:vT p t k)(e:t.kind=15):∃c∈bodyT,t.word=b1 c:=by
 have hh:=h.harm;unfold oI at hh;rw[if_neg oo,if_pos e]at hh;rcases jo e with c|⟨c,_⟩|⟨c,_⟩|⟨c,_⟩
 .rw[c]at hh;simp only[decide_true,Bool.not_true,Bool.false_or]at hh;unfold vk at hh;simp only[Bool.or_eq_true,decide_eq_true_eq]at hh;rcases hh with (((((((h|h)|h)|h)|h)|h)|h)|h)|h<;>exact⟨_,by decide,h⟩
 .exact⟨40,by decide,c⟩
 .exact⟨91,by decide,c⟩
 .exact⟨123,by decide,c⟩
theorem aew{D:Nat}{p:aF}{a:Option Tok}{l:List Nd}(h:vL p l)(hD:depth l<=D):su D bodyT (zZ a l):=by obtain⟨ns,h1,h2,h3⟩:=ndF p a l h;refine⟨ns,h1,fun m hm hk=>?_,oo⟩;obtain⟨n,n1,n2,n3⟩:=h2 m hm hk;obtain⟨c,hc,e⟩:=alS ((EJ p n).1 ((Xf p l).1 h n n1)).1 n2;exact⟨c,hc,by rw[<-n3,e]⟩
theorem ahn{D:Nat}{p:aF}{l:List Nd}(h:vL p l)(hD:depth l<=D):mJ D LZ (written l):=⟨zZ none l,Dw p none l h,fun X hX=>Td p none l X h hX,aew h hD⟩
theorem Uh{D:Nat}{w:BY}(h:0<w.size):mJ D (fun X=>iw (jy X)) (dP w):=⟨[.ident w],by rw[pR];simp[flat,Pc.bytes],fun _ hX=>⟨h,nV hX,trivial⟩,iF rfl (qA Al)⟩
theorem aj2{D:Nat}{p:aF}{d:Dec}(h0:0<d.prop.size)(h:vL p d.val)(hD:depth d.val<=D):mJ D LZ (jW d):=by
 have hi:mJ D LZ (if d.imp=true then ZX else aA):=by
  split
  .rw[adN];exact(PE ajC Al Al Al).append ((Uh Al).wide fun X=>agL) fun _ _=>trivial
  .exact mJ.nil _ _
 have hv:mJ D LZ (written d.val++(if d.imp=true then ZX else aA)):=(ahn h hD).append hi fun X hX=>by
  split
  .exact⟨rfl,show(33:Int)≠32 by decide⟩
  .exact hX
 unfold jW;exact(Uh h0).append ((PE ajC Al Al Al).append hv fun _ _=>trivial) fun X _=>by rw[kV];exact(show iw 58 by unfold iw;decide)
theorem Zk{D:Nat}:∀(l:List BY),(∀o∈l,mJ D LZ o)->mJ D LZ (jX (b1 59) l)
 |[],_=>mJ.nil _ _
 |[a],h=>h a Ab
 |a::b::r,h=>by
  show mJ D LZ (a++(b1 59++jX (b1 59) (b::r)));have ih:=Zk (b::r) fun o ho=>h o (by simp[List.mem_cons.1 ho]);exact(h a Ab).append ((PE ajC Al Al Al).append ih fun _ _=>trivial) fun X _=>by rw[kV];exact⟨rfl,show(59:Int)≠32 by decide⟩
theorem aho{D:Nat}{p:aF}{l:List Nd}(hg:gL l)(hu:uL l)(hD:depth l<=D):mJ D LZ (tX p l):=by unfold tX;refine Zk _ fun o ho=>?_;obtain⟨d,hd,rfl⟩:=List.mem_map.1 ho;obtain⟨hd1,hd2⟩:=List.mem_filter.1 hd;have hs:=(Dl l).2 d hd1;unfold kR at hd2;simp only[Bool.and_eq_true]at hd2;exact aj2 (Dy _ l hg d hd1) (aiu (qw hg hs) (OV hu hs) hd2.1.2) (qh fun n hn=>mG hD n (hs n hn))
theorem NK{ps:List Pc}{ns:List Nd}(h:sJ (dA ps) ns)(hn:∀n∈ns,au n.t (b1 125)=false):sJ (dA (.sign 123::(ps++[.sign 125]))) [.mk (Tok.w 15 (b1 123)) ns]:=by
 have hc:closing (Tok.w 15 (b1 123))=b1 125:=by decide
 have e:dA (.sign 123::(ps++[.sign 125]))=Tok.w 15 (b1 123)::(dA ps++[Tok.w 15 (closing (Tok.w 15 (b1 123)))]):=by rw[hc];show Tok.w 15 (b1 123)::dA (ps++[.sign 125])=_;rw[cO];rfl
 rw[e];exact h.block (by rw[hc];exact OW 125) (by rw[hc];exact hn)
theorem Kq(ns:List Nd):aK (.mk (Tok.w 15 (b1 123)) ns)=true:=by unfold aK dN au;simp[Tok.w]
theorem Ui(ns:List Nd):au (Nd.mk (Tok.w 15 (b1 123)) ns).t (b1 125)=false:=by simp only[Nd.Qq];decide
def kF(p:aF):List Nd:=if p.root=aA then [] else zH p.root
theorem aj3{w:BY}(h:w.data.toList.all jh=true):vZ w=w:=adL fun c hc e=>by have:=List.all_eq_true.1 h c hc;unfold jh at this;simp at this;omega
theorem abm{p:aF}(h:p.root.data.toList.all jh=true):sJ (dA (rW p)) (kF p):=by
 unfold rW kF;split
 .exact sJ.nil
 .have e:dA [.sign 46,.ident p.root,.blank]=[Tok.w 15 (b1 46)]++([Tok.w 14 p.root]++[Tok.k 1]):=by
   show [Tok.w 15 (b1 46),Tok.w 14 (vZ p.root),Tok.k 1]=_;rw[aj3 h];rfl
  rw[e];exact(sJ.leaf (wE Al)).append ((sJ.leaf (dV (qA Al))).append (sJ.leaf (dV (wY Al))))
def wG(root:BY)(r:Rule):Prop:=r.at_.getD aA≠aA\/(root≠aA->∀ss,lM (depth r.head) r.head=some ss->∀cx∈ss,Pre root cx)
theorem NM(rec:List Nd->Option bY):∀(ps:List (List Nd)) (ss:bY),fZ rec ps=some ss->ss.length=ps.length
 |[],ss,h=>by simp[fZ]at h;subst h;rfl
 |p::r,ss,h=>by
  unfold fZ at h;split at h
  .cases h
  .cases hx:fZ rec r with
   |none=>rw[hx]at h;cases h
   |some y=>rw[hx]at h;simp at h;subst h;rw[List.length_cons,List.length_cons,NM rec r y hx]
theorem Kr:∀(l:List Nd) (out:List (List Nd)) (cur:List Nd),iZ out cur l≠[]
 |[],out,cur=>by unfold iZ;simp
 |n::r,out,cur=>by
  unfold iZ;split
  .exact Kr r _ _
  .exact Kr r _ _
theorem ahp{f:Nat}{l:List Nd}{ss:bY}(h:lM f l=some ss):ss≠[]:=by
 have key:∀rec,oz rec l=some ss->ss≠[]:=by
  intro rec h;unfold oz at h;split at h
  .cases h
  .have:=NM rec _ _ h;rintro rfl;exact Kr l [] [] (List.eq_nil_of_length_eq_zero this.symm)
 cases f with
 |zero=>exact key _ h
 |succ f=>exact key _ h
theorem Uj{D:Nat}(PA:List Nd)(hPA:∀n∈PA,DK (44::DL) n):∀(xs:List (List Nd)),(∀x∈xs,L9 D x)->∀n∈uO PA xs,DK (44::DL) n
 |[],_,n,hn=>by cases hn
 |x::r,h,n,hn=>by
  unfold uO at hn;rcases List.mem_cons.1 hn with rfl|hn
  .exact fun _=>⟨44,by decide,rfl⟩
  .rcases List.mem_append.1 hn with hn|hn
   .exact hPA n hn
   .rcases List.mem_append.1 hn with hn|hn
    .obtain⟨_,_,_,h2,_⟩:=h x Ab;exact(h2 n hn).mono fun c hc=>List.mem_cons_of_mem _ hc
    .exact Uj PA hPA r (fun y hy=>h y (by simp[hy])) n hn
theorem aex{D:Nat}(PA:List Nd)(hPA:∀n∈PA,DK (44::DL) n)(xs:List (List Nd))(h:∀x∈xs,L9 D x):∀n∈pI PA xs,DK (44::DL) n:=by
 match xs,h with
 |[],_=>intro n hn;cases hn
 |x::r,h=>
  intro n hn;unfold pI at hn;rcases List.mem_append.1 hn with hn|hn
  .exact hPA n hn
  .rcases List.mem_append.1 hn with hn|hn
   .obtain⟨_,_,_,h2,_⟩:=h x Ab;exact(h2 n hn).mono fun c hc=>List.mem_cons_of_mem _ hc
   .exact Uj PA hPA r (fun y hy=>h y (by simp[hy])) n hn
theorem XH(p:aF):∀n∈kF p,DK (44::DL) n:=by
 unfold kF;split
 .intro n hn;cases hn
 .intro n hn;unfold zH at hn;simp only[List.mem_cons,List.not_mem_nil,or_false]at hn;rcases hn with rfl|rfl|rfl
  .exact fun _=>⟨46,by decide,rfl⟩
  .exact fun h=>by cases h
  .exact fun h=>by cases h
theorem abn{n:Nd}(h:abg n):oG true n=false/\n.t.kind≠10:=by
 unfold oG iH;rcases h with h|h|h
 .simp[h]
 .simp[h]
 .simp[h.1]
theorem XK{D:Nat}(p:aF)(xs:List (List Nd))(h:∀x∈xs,L9 D x):∀n q,pI (kF p) xs=n::q->oG true n=false/\n.t.kind≠10:=by
 intro n q e;match xs,h with
 |[],_=>cases e
 |x::r,h=>
  by_cases hr:p.root=aA
  .have ea:kF p=[]:=by unfold kF;rw[if_pos hr]
   rw[ea]at e;obtain⟨m,s,rfl,_,hf,_⟩:=h x Ab;have e2:m::(s++uO [] r)=n::q:=e;rw[<-(List.cons.inj e2).1];exact abn hf
  .have ea:kF p=zH p.root:=by unfold kF;rw[if_neg hr]
   rw[ea]at e;have e2:abk::([Bo p.root,PD]++(x++uO (zH p.root) r))=n::q:=e;rw[<-(List.cons.inj e2).1];decide
theorem abo{D:Nat}(PA:List Nd)(hPA:depth PA=0)(xs:List (List Nd))(h:∀x∈xs,L9 D x):depth (pI PA xs)<=D:=by
 have ht:∀(xs:List (List Nd)),(∀x∈xs,L9 D x)->depth (uO PA xs)<=D:=by
  intro xs;induction xs with
  |nil=>intro _;simp[uO,depth]
  |cons x r ih=>
   intro h;obtain⟨_,_,_,_,_,hx⟩:=h x Ab;have:=ih fun y hy=>h y (by simp[hy]);have hc:eU aix=0:=by decide
   unfold uO;rw[dU,kC,kC,hc];omega
 match xs,h with
 |[],_=>simp[pI,depth]
 |x::r,h=>obtain⟨_,_,_,_,_,hx⟩:=h x Ab;have:=ht r fun y hy=>h y (by simp[hy]);unfold pI;rw[kC,kC];omega
theorem Uk(p:aF):depth (kF p)=0:=by
 unfold kF;split
 .simp[depth]
 .unfold zH;rw[dU,dU,dU,NH,show eU abk=0 by decide,show eU PD=0 by decide,Bo,qj,if_pos (dV (qA (by decide)))];rfl
theorem abp[bV]{D:Nat}{p:aF}(hr:p.root.data.toList.all jh=true){r:Rule}{b:List Nd}(hh:gL r.head)(hg:gL b)(hu:uL b)(hdh:depth r.head<=D)(hdb:depth b+1<=D):oq D (wG p.root) (H8 p r b):=by
 unfold H8;split
 .exact oq.nil _ _
 .rename_i s hs;split
  .exact oq.nil _ _
  .have hsf:=Y6 _ _ _ (Sm _ hh) hs;have hsn:=ahp hs;obtain⟨xs,hl,hnd,hsel⟩:=aj0 (rW p) (kF p) (abm hr) s D hsf (aen _ _ _ _ hs hdh);obtain⟨pb,b1',b2',nb,b3,b4,b5⟩:=aho (D:=D-1) (p:=p) hg hu oo;have hbn:∀n∈nb,au n.t (b1 125)=false:=fun n hn=>(b4 n hn).no Al;have htop:=aex (kF p) (XH p) xs hsel;have hgood:∀X,Good (Vh (rW p) s++(.sign 123::(pb++[.sign 125]))) X:=by
    intro X;refine Good.append (air (rW p) (Xt p) ?_ s _ hsf (show iw 123 by unfold iw;decide)) ?_
    .unfold rW;split
     .exact .inl rfl
     .exact .inr fun _=>rfl
    .exact fK Al (Good.append (b:=[.sign 125]) (b2' (flat [.sign 125]++X) ⟨rfl,show(125:Int)≠32 by decide⟩) (fK Al trivial))
   refine⟨Vh (rW p) s++(.sign 123::(pb++[.sign 125])),pI (kF p) xs++[.mk (Tok.w 15 (b1 123)) nb],?_,hgood,?_,by rw[kC];have:=abo (kF p) (Uk p) xs hsel;have:=zu (t:=Tok.w 15 (b1 123)) (ns:=nb) (D:=D) oo;omega,?_,[⟨none,pI (kF p) xs,some nb⟩],?_,?_⟩
   .rw[kV,kV,kV,Tt _ _ (adP hr) s hsf,aN,b1'];show flat _++([123]++(flat pb++[125]))=flat _++([123]++flat (pb++[.sign 125]));rw[aN];rfl
   .rw[cO];exact hnd.append (NK b3 hbn)
   .intro n hn;rcases List.mem_append.1 hn with hn|hn
    .exact(htop n hn).no Al
    .rw[List.mem_singleton.1 hn];exact Ui nb
   .intro rest;rw[List.append_assoc,List.singleton_append,abl (XK p xs hsel) (fun m hm=>(htop m hm).no (by decide)) (Kq nb)];rfl
   .intro q hq;rw[List.mem_singleton.1 hq];refine .inr fun hne ss hss=>?_;have e:kF p=zH p.root:=by unfold kF;rw[if_neg hne]
    rw[e]at hss;exact aeu p.root hsel (fun hx=>hsn (List.eq_nil_of_length_eq_zero (by rw[<-hl,hx];rfl))) _ ss hss
theorem Ul(stop:Nd->Bool):∀(l:List Nd),∀n∈(bG stop l).1,stop n=false
 |[],n,h=>by simp[bG]at h
 |m::r,n,h=>by
  unfold bG at h;split at h
  .cases h
  .rename_i hs;rcases List.mem_cons.1 h with rfl|h
   .simpa using hs
   .exact Ul stop r n h
theorem ql(sh:Bool):∀(f:Nat) (l:List Nd),∀r∈fM f sh l,∀w,r.at_=some w->∀n∈r.head,(aS n||aK n)=false
 |0,l=>by simp[fM]
 |f+1,[]=>by simp[fM]
 |f+1,n::r=>by
  unfold fM;split
  .exact ql sh f r
  split
  .intro d hd w hw;simp only at hd;rcases List.mem_cons.1 hd with e|e
   .subst e;exact Ul _ r
   .exact ql sh f _ d e w hw
  .simp only;split
   .simp
   .intro d hd w hw;rcases List.mem_cons.1 hd with e|e
    .subst e;cases hw
    .exact ql sh f _ d e w hw
theorem aey(w:BY):(vZ w).size=w.size:=by show(w.data.toList.map zq).toArray.size=w.data.size;simp
theorem ahq{w ho ro:BY}{pq pr:List Pc}(q1:ho.data.toList=flat pq)(r1:ro.data.toList=flat pr):(b1 64++(dP w++(ho++(b1 123++(ro++b1 125))))).data.toList=flat (Pc.at_ w::(pq++(Pc.sign 123::(pr++[Pc.sign 125])))):=by rw[kV,kV,kV,kV,kV,pR,q1,r1,Xn,Xn,Xn];simp only[flat,aN,Pc.bytes,List.append_nil];simp only[List.cons_append,List.nil_append]
theorem ahr{w:BY}{pq pr:List Pc}(h1:0<w.size)(q2:∀X,LZ X->Good pq X)(q5:∀X,LZ X->uG (flat pq++X))(r2:∀X,Good pr X)(X:List UInt8):Good (Pc.at_ w::(pq++(Pc.sign 123::(pr++[Pc.sign 125])))) X:=by
 obtain⟨Y,hY⟩:∃Y,flat (Pc.sign 123::(pr++[Pc.sign 125]))++X=123::Y:=⟨_,rfl⟩;have hf:LZ (flat (Pc.sign 123::(pr++[Pc.sign 125]))++X):=by rw[hY];exact⟨rfl,show(123:Int)≠32 by decide⟩
 have hst:=q5 _ hf;rw[<-List.append_assoc,<-aN]at hst;have hg:Good (Pc.sign 123::(pr++[Pc.sign 125])) X:=fK Al ((r2 _).append (b:=[.sign 125]) (fK Al trivial));exact⟨h1,hst,(q2 _ hf).append hg⟩
theorem aj6{w:BY}{pq pr:List Pc}{nq nr:List Nd}(q3:sJ (dA pq) nq)(r3:sJ (dA pr) nr)(r4:∀n∈nr,au n.t (b1 125)=false):sJ (dA (Pc.at_ w::(pq++(Pc.sign 123::(pr++[Pc.sign 125]))))) (.mk (Tok.w 10 (vZ w)) []::(nq++[.mk (Tok.w 15 (b1 123)) nr])):=by
 have e:dA (Pc.at_ w::(pq++(Pc.sign 123::(pr++[Pc.sign 125]))))=[Tok.w 10 (vZ w)]++(dA pq++dA (Pc.sign 123::(pr++[Pc.sign 125]))):=by rw[<-cO];rfl
 rw[e];exact(sJ.leaf (dV (qA Al))).append (q3.append (NK r3 r4))
theorem aj7{D:Nat}{root w:BY}{ho ro:BY}{pq pr:List Pc}{nq nr:List Nd}(h1:0<w.size)(q1:ho.data.toList=flat pq)(q2:∀X,LZ X->Good pq X)(q3:sJ (dA pq) nq)(q4:∀n∈nq,(aS n||aK n)=false/\au n.t (b1 125)=false)(q5:∀X,LZ X->uG (flat pq++X))
  (r1:ro.data.toList=flat pr) (r2:∀X,Good pr X) (r3:sJ (dA pr) nr) (r4:∀n∈nr,au n.t (b1 125)=false) (hq:depth nq<=D) (hr:depth nr+1<=D):oq D (wG root) (b1 64++(dP w++(ho++(b1 123++(ro++b1 125))))):=by
 refine⟨_,_,ahq q1 r1,ahr h1 q2 q5 r2,aj6 q3 r3 r4,by rw[dU,kC,qj,if_pos (dV (qA (by decide)))];have:=zu (t:=Tok.w 15 (b1 123)) hr;omega,?_,[⟨some (vZ w),nq,some nr⟩],?_,?_⟩
 .intro n hn;rcases List.mem_cons.1 hn with rfl|hn
  .simp[au,Tok.w]
  .rcases List.mem_append.1 hn with hn|hn
   .exact(q4 n hn).2
   .rw[List.mem_singleton.1 hn];exact Ui nr
 .intro rest;have e:=aev (t:=.mk (Tok.w 10 (vZ w)) []) (h:=nq) (b:=.mk (Tok.w 15 (b1 123)) nr) (by rfl) (fun m hm=>(q4 m hm).1) (Kq nr) rest;rw[List.cons_append,List.append_assoc,List.singleton_append,e];rfl
 .intro q hq;rw[List.mem_singleton.1 hq];refine .inl fun e=>?_;have e2:vZ w=aA:=e;have e3:=congrArg ByteArray.size e2;rw[aey]at e3;have e5:aA.size=0:=rfl;omega
theorem Um[bV]{D:Nat}{p:aF}(ha:p.ats.all gK=true)(hr:p.root.data.toList.all jh=true){rec:List Nd->BY}{r:Rule}(hh:gL r.head)(hu:uL r.head)(h0:∀w,r.at_=some w->0<w.size)(hat:∀w,r.at_=some w->∀n∈r.head,(aS n||aK n)=false)
  (hdh:depth r.head<=D) (hb:∀b,r.body=some b->gL b/\uL b/\depth b+1<=D/\oq (D-1) (wG p.root) (rec b)):oq D (wG p.root) (H9 p rec r):=by
 unfold H9;split
 .rename_i w b hw hbo;obtain⟨_,_,b0,b3⟩:=hb b hbo;split
  .rename_i hc;split
   .exact oq.nil _ _
   .have hs:=TA ha hc.1;have h1:0<(small w).size:=by rw[jE];exact h0 w hw
    have hv:vL p (bare r.head):=aiu (qw hh (nP _)) (OV hu (nP _)) hc.2;obtain⟨pr,nr,r1,r2,r3,r0,r4,_⟩:=b3;obtain⟨pq,nq,q1,q2,q3,q4,q5,q6⟩:∃(pq:List Pc) (nq:List Nd),(qE (bare r.head)).data.toList=flat pq/\(∀X,LZ X->Good pq X)/\sJ (dA pq) nq/\(∀n∈nq,(aS n||aK n)=false/\au n.t (b1 125)=false)/\(∀X,LZ X->uG (flat pq++X))/\depth nq<=D:=by
     obtain⟨ns,n1,n2,n3⟩:=ndF p none (bare r.head) hv;have hbd:depth (bare r.head)<=D:=qh fun n hn=>mG hdh n (nP _ n hn);have hno:∀n∈ns,(aS n||aK n)=false/\au n.t (b1 125)=false:=by
      intro m hm;refine⟨?_,yG hv n2 125 (.inr (.inr rfl)) m hm⟩;cases hq:(aS m||aK m)with
      |false=>rfl
      |true=>
       exfalso
       have hk:m.t.kind=15:=by unfold aS aK dN au at hq;simp only[Bool.or_eq_true,Bool.and_eq_true,decide_eq_true_eq]at hq;omega
       obtain⟨n,m1,m2,m3⟩:=n2 m hm hk;have:=hat w hw n (nP _ n m1);unfold aS aK dN au at this hq;rw[m2,m3]at this;rw[hk]at hq;rw[this]at hq;cases hq
     have hfs:∀X,LZ X->uG X:=fun X hX=>by have:=zn hX.1;exact⟨this.1,this.2.1⟩
     by_cases hne:bare r.head=[]
     .refine⟨[],[],by unfold qE;rw[if_pos hne];rfl,fun _ _=>trivial,sJ.nil,by simp,fun X hX=>hfs X hX,by simp[depth]⟩
     .refine⟨.blank::zZ none (bare r.head),.mk (Tok.k 1) []::ns,?_,fun X hX=>⟨trivial,?_,Td p none _ X hv hX⟩,?_,?_,fun X _=>⟨show lX 32=false by decide,show(32:Int)≠92 by decide⟩,by rw[dU,qj,if_pos (dV (wY (by decide)))];omega⟩
      .unfold qE;rw[if_neg hne,kV];unfold written;rw[Dw p none _ hv];rfl
      .show aO (jy (flat (zZ none (bare r.head))++X))=false;match hl:bare r.head,hne,hv with
       |n::q,_,hv=>simp only[vL]at hv;rw[rQ,if_neg (by simp[Ak])];show aO (jy (flat (([]++pcN n)++zZ (some n.t) q)++X))=false;rw[List.nil_append,aN,List.append_assoc];exact(Xj hv.1 (agM hl) _).1
      .have e:dA (.blank::zZ none (bare r.head))=[Tok.k 1]++dA (zZ none (bare r.head)):=rfl;rw[e];exact(sJ.leaf (dV (wY Al))).append n1
      .intro n hn;rcases List.mem_cons.1 hn with rfl|hn
       .decide
       .exact hno n hn
    have:=aj7 (root:=p.root) h1 q1 q2 q3 q4 q5 r1 r2 r3 r4 q6 oo;exact this
  .exact oq.nil _ _
 .rename_i b hat' hbo;obtain⟨c1,c2,c3,_⟩:=hb b hbo;exact abp hr hh c1 c2 hdh c3
 .exact oq.nil _ _
theorem Zl[bV]{p:aF}(ha:p.ats.all gK=true)(hr:p.root.data.toList.all jh=true):∀(f:Nat) (sh:Bool) (l:List Nd) (D:Nat),gL l->uL l->depth l<=D->oq D (wG p.root) (tY p f sh l)
 |0,sh,l,D,hg,hu,hD=>by unfold tY;refine oq.cat _ fun o ho=>?_;obtain⟨r,hm,rfl⟩:=List.mem_map.1 ho;have h:=mP hg r hm;have hs:=((pO sh l).2 r hm).head;exact Um ha hr h.1 (OV hu hs) (qN sh _ l hg r hm) (ql sh _ l r hm) (qh fun n hn=>mG hD n (hs n hn)) fun b hb=>⟨(h.2.2.1 b hb).1,Xu hm hu hb,by have:=(h.2.2.1 b hb).2;omega,oq.nil _ _⟩
 |f+1,sh,l,D,hg,hu,hD=>by unfold tY;refine oq.cat _ fun o ho=>?_;obtain⟨r,hm,rfl⟩:=List.mem_map.1 ho;have h:=mP hg r hm;have hs:=((pO sh l).2 r hm).head;exact Um ha hr h.1 (OV hu hs) (qN sh _ l hg r hm) (ql sh _ l r hm) (qh fun n hn=>mG hD n (hs n hn)) fun b hb=>⟨(h.2.2.1 b hb).1,Xu hm hu hb,by have:=(h.2.2.1 b hb).2;omega,Zl ha hr f false b (D-1) (h.2.2.1 b hb).1 (Xu hm hu hb) (by have:=(h.2.2.1 b hb).2;omega)⟩
theorem Zm[bV](s:BY)(p:aF):oq 8 (wG p.root) (dR s p).1:=by
 unfold dR;split
 .exact oq.nil _ _
 .rename_i hp;split
  .exact oq.nil _ _
  .rename_i hs;split
   .exact oq.nil _ _
   .rename_i hdp;have h:=aa2 (p:=p) (by simpa using hp);exact Zl h.2.1 h.2.2 _ _ _ 8 (Di oo).1 (agF s) oo
theorem aez{q:Pc}(h:q.ok):∀c∈q.bytes,32<=c.toNat:=by
 intro c hc;by_cases e:q=.sign 62
 .subst e;rw[List.mem_singleton.1 hc];decide
 .exact(agK h e c hc).1
theorem Kt:∀ {l:List Pc}{r:List UInt8},Good l r->∀c∈flat l,32<=c.toNat
 |[],_,_,c,hc=>by cases hc
 |q::l,_,h,c,hc=>by
  rcases List.mem_append.1 (show c∈q.bytes++flat l from hc)with hc|hc
  .exact aez h.1 c hc
  .exact Kt h.2.2 c hc
theorem abq[bV](s:BY)(p:aF):∀c∈(dR s p).1.data.toList,32<=c.toNat:=by obtain⟨ps,ns,h1,h2,_⟩:=Zm s p;rw[h1];exact Kt (h2 [])
end Go.Proofs.YtlliliddljkbfaaGreat.Sp
namespace Go.Proofs.YtlliliddljkbfaaGreat
open Go.Proofs.Tryz (prog)
open Go.RowKit Sp
def nY(sh:List BY):Bool:=sh.any (fun s=>!decide (depth (bH s)<=8))
theorem abr{sh:List BY}{i:Nat}(h:i<sh.length)(h0:nY (sh.take i)=false):nY (sh.take (i+1)) = !decide (depth (bH sh[i])<=8):=by unfold nY at *;rw[List.take_succ_eq_append_getElem h,List.any_append,h0];simp
theorem Un{sh:List BY}{s:BY}(h:s∈sh)(hd:¬depth (bH s)<=8):nY sh=true:=by unfold nY;rw[List.any_eq_true];exact⟨s,h,by rw[decide_eq_false hd];rfl⟩
theorem abt{sh:List BY}(h:nY sh=false):∀s∈sh,depth (bH s)<=8:=by
 intro s hs;by_cases hd:depth (bH s)<=8
 .exact hd
 .rw[Un hs hd]at h;cases h
def rsR(sh:List BY)(w w':WD)(e:Ending):Prop:=if nY sh=true then e=.returned (.tuple #[.slice none 0 0,.bool false]) else ∃u,e=.returned (.tuple #[u,.bool true])/\SG (One dB 4) 1 (oD w.heap.size w') w' u (sh.map KR)
theorem PG(B:Nat)(sh:List BY)(v:Av)(w:WD)(h:SG eX 1 (fun b=>b<B) w v sh)(hB:B<=w.heap.size)(hl:Lit w)(hd:∀s∈sh,s.size<=600):
  Calls prog 35 #[v] w fun e w'=>rsR sh w w' e/\Below w.heap.size w w':=by
 have hln:=h.len;have HS:=hid h;have HL:=hid hl;have HD:=hid hd;have hF:Hid (Fair (One dB 4)):=One.fair dB.fair;obtain⟨a,cap,rfl⟩:=h.form;clear h hl hd;obtain⟨iT,hiT⟩:=aek;have HI:=hid hiT;clear hiT;go_in;go_wp2_with fail;go_loopg[4,11] sh.length (fun gg v4 v11 wr=>∃(u:Av) (i:Nat),u=v4/\v11=.int .i64 (i:Int)/\i+gg=sh.length/\Aside ((MG (One dB 4) 1 85 w.heap.size wr u ((sh.take i).map KR)/\Below w.heap.size w wr)/\nY (sh.take i)=false));case atStart=>exact⟨_,0,rfl,rfl,oo,⟨MG.nil _ _ _ _ _,Ax⟩,rfl⟩
 case round=>
  obtain⟨u,i,rfl,rfl,hi,hA⟩:=hrel;have HC:=hid hA.o.1;have HDP:=hid hA.o.2;clear hA;have hsr:=HC.o.2.size;have hmn:((sh.take i).map KR).length=i:=by rw[List.length_map,List.length_take];omega
  by_cases hlt:i<sh.length
  .have h1:(i:Int)<(sh.length:Int):=oo;obtain⟨g,o,rfl,hL,hcap⟩:=(HS.o.below eX.fair HC.o.2 hB).here (by rintro rfl;simp at hlt);obtain⟨_,d0,_⟩:=hL.str (i:=i) hlt;have hs6:=HD.o sh[i] (List.getElem_mem hlt);have HDA:Hid (nY (sh.take (i+1)) = !decide (depth (bH sh[i])<=8)):=abr hlt HDP.o;have HDM:Hid (¬depth (bH sh[i])<=8->nY sh=true):=fun hn=>Un (List.getElem_mem hlt) hn;have HM:Hid ((sh.take (i+1)).map KR=(sh.take i).map KR++[KR sh[i]]):=by
    show _=_;rw[List.take_succ_eq_append_getElem hlt,List.map_append];rfl
   generalize sh[i]=s at *;clear hL;by_cases hd8:¬depth (bH s)<=8
   .have HDT:=hid (HDM.o hd8);have HCS:=hid (FM s wr hs6 (HL.o.below HC.o.2));go_wp2_with fail;refine HCS.o.mono ?_;rintro e w2 ⟨⟨rv,rfl,_,hnil⟩,hb2⟩;obtain rfl:=hnil hd8;rw[decide_eq_false hd8];have X2:=hid (HC.o.2.trans (hb2.mono hsr));clear hb2 hnil hd8;go_wp2_with fail;go_ret2
    exact⟨by unfold rsR;rw[if_pos HDT.o];rfl,X2.o⟩
   have hd8:=Classical.not_not.1 hd8;rw[decide_eq_true hd8]at HDA;have am1:Hid (nY (sh.take (i+1))=false):=HDA.o;clear HDA HDM;go_wp2_with fail;refine(TU s wr hs6 (HL.o.below HC.o.2) hd8).mono ?_;rintro e w2 ⟨rv,rfl,Rj,hb2⟩;obtain⟨ra,rc,rfl⟩:=Rj.form;have HRV:=hid Rj;have X2:=hid (HC.o.2.trans (hb2.mono hsr));have M2:=hid (HC.o.1.below hF.o hb2);have hs2:=X2.o.size;have hsw:=hb2.size;obtain⟨n,Hn⟩:=Nm ((rules true (bH s)).length);rw[Hn.o]at HRV;rw[Hn.o]
   have PA:∀o,Hid (One dB 4 (DZ w.heap.size (w2.alloc o) u) (w2.alloc o) (rules true (bH s)) [.slice ra n rc]):=fun o=>HC.o.1.apart hF.o (show One dB 4 (oD wr.heap.size w2) w2 (rules true (bH s)) [.slice ra n rc] from⟨_,rfl,HRV.o⟩) hsr Ab (fun g hg=>Below.heap_alloc _ _ _ hg);obtain⟨cs,hown,pX⟩:=(M2.o.alloc hF.o (.cells #[.slice ra n rc] 85));have HO:Hid ((w2.alloc (.cells #[.slice ra n rc] 85)).ownsRow w.heap.size 85 1 u i cs):=by have h:=hown;rw[hmn]at h;exact h
   have Wx:=hid pX;clear hown pX Rj hb2 d0;go_wp2_with(at_builtin;go_must(refine wpList_append_own_at _ rfl _ _ 71 rfl w.heap.size 85 iT (.slice none 0 0) 1 24 Tryz.underlying71 HI.o.1 HI.o.2.1 HI.o.2.2.1 HI.o.2.2.2 rfl oo u i cs rfl HO.o ⟨w2.heap.size,0,none⟩ 1 1 [.slice ra n rc] rfl rfl (nO _ _ _) (by simp[Value.oneCell']) As oo An ?_));intro v5 w5 hown5 hgr5 _ TV;have hlo:∀rr,u.ownBlock=some rr->w.heap.size<=rr:=fun rr hr=>(HO.o.lt rr hr).1;have hb5:Below w.heap.size w2 w5:=(Ax.alloc oo _).grown hgr5 An hlo;have yE:w5.ownsRow w.heap.size 85 1 v5 (((sh.take i).map KR).length+1) (cs++[.slice ra n rc]):=by rw[hmn];exact hown5
   have M5:Hid (MG (One dB 4) 1 85 w.heap.size w5 v5 ((sh.take i).map KR++[rules true (bH s)])):=MG.snoc hF.o Wx.o (PA _).o yE hgr5 (by simpa using TV);have X5:=hid (X2.o.trans hb5);have HE:Hid (MG (One dB 4) 1 85 w.heap.size w5 v5 ((sh.take (i+1)).map KR)/\Below w.heap.size w w5):=⟨by rw[HM.o];exact M5.o,X5.o⟩;clear hown5 yE hgr5 TV hb5 hlo M5 X5 PA;go_wp2_with fail;go_roundg(gk-1);case measure=>omega
   case rel=>exact⟨v5,i+1,rfl,by congr 1,oo,HE.o,am1.o⟩
  .have h1:(sh.length:Int)<=(i:Int):=oo;have HE:Hid (SG (One dB 4) 1 (oD w.heap.size wr) wr u (sh.map KR)):=by
    have h:=HC.o.1.sl hF.o (One.sized dB 4) oo;rw[List.take_of_length_le (show sh.length<=i by omega)]at h;exact h
   have HDE:Hid (nY sh=false):=by have q:=HDP.o;rwa[List.take_of_length_le (show sh.length<=i by omega)]at q
   go_wp2_with fail;go_ret2
   exact⟨by unfold rsR;rw[if_neg (by rw[HDE.o];simp)];exact⟨_,rfl,HE.o⟩,HC.o.2⟩
def sK:wV Nat:=fun _ _ n cs=>cs=[.int .i64 (n:Int)]
theorem sK.fair:Fair sK:=fun _ _ _ _ _ _ _ _ h=>h
theorem sK.sized:ug sK 1:=by rintro S w x cs rfl;rfl
theorem LG.nat{S:Nat->Prop}{w:WD}{l:List Nat}{g o i:Nat}(h:LG sK 1 S w l g o)(hi:i<l.length):S g/\w.cell? ⟨g,o+i,none⟩=some (.int .i64 (l[i]:Int)):=by obtain⟨h0,cs,rfl,hc⟩:=h.at l g o i hi;have:=hc 0 _ rfl;rw[Nat.mul_one,Nat.add_zero]at this;exact⟨h0,this⟩
theorem aeA:∃i,prog.info? 3=some i/\i.zero=some (.int .i64 0)/\i.size=1/\i.bytes=8:=info_parts Ao
theorem MG.ahs{base:Nat}{w w':WD}{v v2:Av}{l:List Nat}{cs:List Av}(n:Nat)(h:jC sK (DZ base w v) w l cs)(hown:w'.ownsRow base 3 1 v2 (l.length+1) (cs++[.int .i64 (n:Int)]))(hg:w.grownBy w' v.ownBlock)(hat:v2.ownBlock=v.ownBlock\/v2.ownBlock=some w.heap.size):MG sK 1 3 base w' v2 (l++[n]):=MG.snoc sK.fair h rfl hown hg hat
