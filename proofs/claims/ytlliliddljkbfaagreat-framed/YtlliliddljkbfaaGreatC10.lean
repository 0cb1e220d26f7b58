import Derived.Test.YtlliliddljkbfaaGreatC9
set_option maxHeartbeats 64000000
set_option maxRecDepth 100000
namespace Go.Proofs.YtlliliddljkbfaaGreat.Sp
def sJ(ts:List Tok)(ns:List Nd):Prop:=∀(e:BY) (rest:List Tok),(e≠aA->∀n∈ns,au n.t e=false)->kids e (ts++rest)=(ns++(kids e rest).1,(kids e rest).2)
theorem sJ.nil:sJ [] []:=fun _ _ _=>rfl
theorem sJ.append{a b:List Tok}{na nb:List Nd}(h:sJ a na)(k:sJ b nb):sJ (a++b) (na++nb):=by intro e rest hn;rw[List.append_assoc,h e _ (fun he n hm=>hn he n (by simp[hm])),k e rest (fun he n hm=>hn he n (by simp[hm])),List.append_assoc]
theorem Zi{e:BY}{t:Tok}{k:List Nd}(hn:e≠aA->∀n∈[Nd.mk t k],au n.t e=false):¬(e≠aA/\au t e=true):=fun hh=>by have:=hn hh.1 (.mk t k) Ab;rw[Nd.Qq,hh.2]at this;cases this
theorem sJ.leaf{t:Tok}(h:closing t=aA):sJ [t] [.mk t []]:=by intro e rest hn;rw[List.singleton_append,iy (Zi hn),sU h];rfl
theorem sJ.block{t:Tok}{ts:List Tok}{ns:List Nd}(h:sJ ts ns)(hc:closing t≠aA)(hs:∀n∈ns,au n.t (closing t)=false):sJ (t::(ts++[Tok.w 15 (closing t)])) [.mk t ns]:=by
 intro e rest hn;have hi:inside t ((ts++[Tok.w 15 (closing t)])++rest)=(ns,rest):=by unfold inside;rw[if_neg hc,List.append_assoc,h _ _ (fun _=>hs),List.singleton_append,qX ⟨hc,by simp[au,Tok.w]⟩,List.append_nil]
 rw[List.cons_append,iy (Zi hn),hi];rfl
theorem yF{c d:UInt8}(h:b1 c=b1 d):c=d:=by have:=congrArg (fun x=>x.data.toList) h;simpa[b1]using this
theorem wE{c:UInt8}(h:c≠40/\c≠91/\c≠123):closing (Tok.w 15 (b1 c))=aA:=by unfold closing;rw[if_neg (by simp[Tok.w]),if_pos (by rfl),show(Tok.w 15 (b1 c)).word=b1 c from rfl,if_neg (fun e=>h.1 (yF e)),if_neg (fun e=>h.2.1 (yF e)),if_neg (fun e=>h.2.2 (yF e))]
theorem dV{t:Tok}(h:t.kind≠11/\t.kind≠15):closing t=aA:=by unfold closing;rw[if_neg h.1,if_neg h.2]
def DK(L:List UInt8)(n:Nd):Prop:=n.t.kind=15->∃c∈L,n.t.word=b1 c
theorem DK.no{L:List UInt8}{n:Nd}{d:UInt8}(h:DK L n)(hd:d ∉ L):au n.t (b1 d)=false:=by
 cases hs:au n.t (b1 d)with
 |false=>rfl
 |true=>unfold au at hs;simp only[Bool.and_eq_true,decide_eq_true_eq]at hs;obtain⟨c,hc,e⟩:=h hs.1;rw[hs.2]at e;exact absurd (yF e ▸ hc) hd
theorem DK.mono{L M:List UInt8}{n:Nd}(h:DK L n)(hs:∀c∈L,c∈M):DK M n:=fun hk=>by obtain⟨c,hc,e⟩:=h hk;exact⟨c,hs c hc,e⟩
theorem kC(a b:List Nd):depth (a++b)=max (depth a) (depth b):=by
 induction a with
 |nil=>simp[depth]
 |cons n r ih=>rw[List.cons_append,dU,dU,ih];omega
theorem NH:depth ([]:List Nd)=0:=by simp[depth]
theorem qj(t:Tok)(k:List Nd):eU (.mk t k)=if closing t=aA then 0 else depth k+1:=by rw[eU]
theorem wF{t:Tok}(h:closing t=aA):depth [Nd.mk t []]=0:=by rw[dU,qj,if_pos h];simp[depth]
theorem zu{t:Tok}{ns:List Nd}{D:Nat}(h:depth ns+1<=D):depth [Nd.mk t ns]<=D:=by
 rw[dU,qj];have:depth ([]:List Nd)=0:=by simp[depth]
 split<;>omega
def su(D:Nat)(L:List UInt8)(ps:List Pc):Prop:=∃ns,sJ (dA ps) ns/\(∀n∈ns,DK L n)/\depth ns<=D
theorem su.nil(D:Nat)(L:List UInt8):su D L []:=⟨[],sJ.nil,by simp,by simp[depth]⟩
theorem su.append{D:Nat}{L:List UInt8}{a b:List Pc}(h:su D L a)(k:su D L b):su D L (a++b):=by
 obtain⟨na,h1,h2,h3⟩:=h;obtain⟨nb,k1,k2,k3⟩:=k;refine⟨na++nb,by rw[cO];exact h1.append k1,fun n hn=>?_,by rw[kC];omega⟩;rcases List.mem_append.1 hn with hn|hn
 .exact h2 n hn
 .exact k2 n hn
theorem su.mono{D:Nat}{L M:List UInt8}{a:List Pc}(h:su D L a)(hs:∀c∈L,c∈M):su D M a:=by obtain⟨na,h1,h2,h3⟩:=h;exact⟨na,h1,fun n hn=>(h2 n hn).mono hs,h3⟩
theorem qA{n:Int}{x:BY}(h:n≠11/\n≠15):(Tok.w n x).kind≠11/\(Tok.w n x).kind≠15:=h
theorem wY{n:Int}(h:n≠11/\n≠15):(Tok.k n).kind≠11/\(Tok.k n).kind≠15:=h
theorem nX{q:Pc}{t:Tok}(ht:q.tok=some t)(hk:t.kind≠11/\t.kind≠15):sJ (dA [q]) [.mk t []]:=by
 have e:dA [q]=[t]:=by unfold dA;rw[List.filterMap_cons,ht];rfl
 rw[e];exact sJ.leaf (dV hk)
theorem iF{D:Nat}{L:List UInt8}{q:Pc}{t:Tok}(ht:q.tok=some t)(hk:t.kind≠11/\t.kind≠15):su D L [q]:=⟨_,nX ht hk,fun n hn h=>by rw[List.mem_singleton.1 hn]at h;exact absurd h hk.2,by rw[wF (dV hk)];omega⟩
theorem J7{c:UInt8}(h:c≠40/\c≠91/\c≠123):sJ (dA [.sign c]) [.mk (Tok.w 15 (b1 c)) []]:=sJ.leaf (wE h)
theorem uM{D:Nat}{L:List UInt8}{c:UInt8}(h:c≠40/\c≠91/\c≠123)(hc:c∈L):su D L [.sign c]:=⟨_,J7 h,fun n hn _=>by rw[List.mem_singleton.1 hn];exact⟨c,hc,rfl⟩,by rw[wF (wE h)];omega⟩
theorem su.cons{D:Nat}{L:List UInt8}{q:Pc}{l:List Pc}(h:su D L [q])(k:su D L l):su D L (q::l):=h.append (a:=[q]) k
theorem abe{p:aF}{t:Tok}{k:List Nd}(h:vT p t k)(e:t.kind=15):t.word≠b1 41/\t.word≠b1 93/\t.word≠b1 125/\t.word≠b1 59:=by
 have hh:=h.harm;unfold oI at hh;rw[if_neg oo,if_pos e]at hh;rcases jo e with c|⟨c,_⟩|⟨c,_⟩|⟨c,_⟩
 .rw[c]at hh;simp only[decide_true,Bool.not_true,Bool.false_or]at hh;unfold vk at hh;simp only[Bool.or_eq_true,decide_eq_true_eq]at hh;rcases hh with (((((((h|h)|h)|h)|h)|h)|h)|h)|h<;>rw[h]<;>refine⟨?_,?_,?_,?_⟩<;>(intro e;exact absurd (yF e) Al)
 .rw[c];refine⟨?_,?_,?_,?_⟩<;>(intro e;exact absurd (yF e) Al)
 .rw[c];refine⟨?_,?_,?_,?_⟩<;>(intro e;exact absurd (yF e) Al)
 .rw[c];refine⟨?_,?_,?_,?_⟩<;>(intro e;exact absurd (yF e) Al)
theorem abf{t:Tok}(e:t.kind=15):closing (Tok.w 15 t.word)=closing t:=by unfold closing;rw[if_neg (by simp[Tok.w]),if_pos (by rfl),if_neg (show ¬t.kind=11 by omega),if_pos e];rfl
theorem yG{p:aF}{l ns:List Nd}(hl:vL p l)(hn:∀m∈ns,m.t.kind=15->∃n∈l,n.t.kind=15/\n.t.word=m.t.word)(d:UInt8)(hd:d=41\/d=93\/d=125):∀m∈ns,au m.t (b1 d)=false:=by
 intro m hm;cases hs:au m.t (b1 d)with
 |false=>rfl
 |true=>
  exfalso
  unfold au at hs;simp only[Bool.and_eq_true,decide_eq_true_eq]at hs;obtain⟨n,h1,h2,h3⟩:=hn m hm hs.1;have:=abe ((EJ p n).1 ((Xf p l).1 hl n h1)).1 h2;rw[h3,hs.2]at this;rcases hd with rfl|rfl|rfl
  .exact this.1 rfl
  .exact this.2.1 rfl
  .exact this.2.2.1 rfl
mutual
theorem ndN(p:aF):∀(n:Nd),vN p n->∃m,sJ (dA (pcN n)) [m]/\(m.t.kind=15->n.t.kind=15/\n.t.word=m.t.word)/\eU m<=eU n
 |.mk t k,h=>by
  simp only[vN]at h;have hv:=h.1;obtain⟨ns,ih,ih2,ih3⟩:=ndF p none k h.2;have lf:∀(u:Tok),closing u=aA->eU (.mk u [])<=eU (.mk t k):=fun u hu=>by rw[qj,if_pos hu];omega
  have bl:∀(u:Tok),closing t≠aA->eU (.mk u ns)<=eU (.mk t k):=fun u hu=>by rw[qj,qj,if_neg hu];split<;>omega
  rw[Bc];simp only[Nd.Qq,Nd.BK];rcases hv.kinds with e|e|e|e|e|e|e|e|e
  .rw[Y5 _ e];exact⟨_,nX rfl (wY Al),(fun h=>by cases h),lf _ (dV (by first|exact qA Al|exact wY Al|exact(show(7:Int)≠11/\(7:Int)≠15 by decide)))⟩
  .rw[Tc _ e];exact⟨_,nX rfl (qA Al),(fun h=>by cases h),lf _ (dV (by first|exact qA Al|exact wY Al|exact(show(7:Int)≠11/\(7:Int)≠15 by decide)))⟩
  .rw[adA _ e];exact⟨_,nX rfl (qA Al),(fun h=>by cases h),lf _ (dV (by first|exact qA Al|exact wY Al|exact(show(7:Int)≠11/\(7:Int)≠15 by decide)))⟩
  .rw[adB _ e];exact⟨_,nX rfl (qA Al),(fun h=>by cases h),lf _ (dV (by first|exact qA Al|exact wY Al|exact(show(7:Int)≠11/\(7:Int)≠15 by decide)))⟩
  .rw[adC _ e];exact⟨_,nX rfl (qA Al),(fun h=>by cases h),lf _ (dV (by first|exact qA Al|exact wY Al|exact(show(7:Int)≠11/\(7:Int)≠15 by decide)))⟩
  .rw[adD _ e];exact⟨_,nX rfl (show(7:Int)≠11/\(7:Int)≠15 by decide),(fun h=>by cases h),lf _ (dV (by first|exact qA Al|exact wY Al|exact(show(7:Int)≠11/\(7:Int)≠15 by decide)))⟩
  .rw[Xh _ e];have hc:closing (Tok.w 11 (vZ t.word))=b1 41:=rfl;have e2:dA (.func t.word::(zZ none k++[.sign 41]))=Tok.w 11 (vZ t.word)::(dA (zZ none k)++[Tok.w 15 (closing (Tok.w 11 (vZ t.word)))]):=by
    rw[hc];show Tok.w 11 (vZ t.word)::dA (zZ none k++[.sign 41])=_;rw[cO];rfl
   rw[e2];exact⟨_,ih.block (by rw[hc];exact OW 41) (by rw[hc];exact yG h.2 ih2 41 (.inl rfl)),(fun h=>by cases h),bl _ (by unfold closing;rw[if_pos e];decide)⟩
  .rw[Xi _ e];exact⟨_,nX rfl (qA Al),(fun h=>by cases h),lf _ (dV (by first|exact qA Al|exact wY Al|exact(show(7:Int)≠11/\(7:Int)≠15 by decide)))⟩
  .rw[EK _ e];have hw:=(Xe (hv.ok.sign e)).2;have e3:Tok.w 15 (b1 (bt t.word))=Tok.w 15 t.word:=by rw[<-hw]
   have hcw:=abf e;by_cases hc:closing t=aA
   .have hk:=hv.leaf hc;rw[hk,zl];have e2:dA (.sign (bt t.word)::([]++SV t))=[Tok.w 15 t.word]:=by
     unfold SV;rw[if_pos hc,<-e3];rfl
    rw[e2];exact⟨_,sJ.leaf (by rw[hcw];exact hc),fun _=>⟨e,rfl⟩,by have:=lf (Tok.w 15 t.word) (by rw[hcw];exact hc);rwa[hk]at this⟩
   .have e2:dA (.sign (bt t.word)::(zZ none k++SV t))=Tok.w 15 t.word::(dA (zZ none k)++[Tok.w 15 (closing (Tok.w 15 t.word))]):=by
     show Tok.w 15 (b1 (bt t.word))::dA (zZ none k++SV t)=_;rw[cO,e3,hcw];congr 2
     unfold SV;rw[if_neg hc];show [Tok.w 15 (b1 (bt (closing t)))]=_;have:(closing t).size=1:=by
      rcases jo e with q|⟨_,q⟩|⟨_,q⟩|⟨_,q⟩
      .exact absurd q hc
      all_goals rw[q];rfl
     rw[<-(Xe this).2]
    rw[e2];refine⟨_,ih.block (by rw[hcw];exact hc) ?_,fun _=>⟨e,rfl⟩,bl _ hc⟩;rw[hcw];rcases jo e with q|⟨_,q⟩|⟨_,q⟩|⟨_,q⟩
    .exact absurd q hc
    .rw[q];exact yG h.2 ih2 41 (.inl rfl)
    .rw[q];exact yG h.2 ih2 93 (.inr (.inl rfl))
    .rw[q];exact yG h.2 ih2 125 (.inr (.inr rfl))
theorem ndF(p:aF):∀(a:Option Tok) (l:List Nd),vL p l->∃ns,sJ (dA (zZ a l)) ns/\(∀m∈ns,m.t.kind=15->∃n∈l,n.t.kind=15/\n.t.word=m.t.word)/\depth ns<=depth l
 |_,[],_=>by rw[zl];exact⟨[],sJ.nil,by simp,by simp[depth]⟩
 |a,n::r,h=>by
  simp only[vL]at h;obtain⟨m,h1,h2,h2'⟩:=ndN p n h.1;obtain⟨ns,h3,h4,h4'⟩:=ndF p (some n.t) r h.2;have hdc:=dU n r;rw[rQ,cO];have h5:∀m∈ns,m.t.kind=15->∃q∈n::r,q.t.kind=15/\q.t.word=m.t.word:=fun x hx hk=>by obtain⟨q,q1,q2⟩:=h4 x hx hk;exact⟨q,List.mem_cons_of_mem _ q1,q2⟩
  split
  .exact⟨ns,h3,h5,oo⟩
  .rw[cO];have hg:dA (SX a n.t)=[]:=by
    unfold SX;split
    .rfl
    .split<;>rfl
   rw[hg,List.nil_append];refine⟨[m]++ns,h1.append h3,fun x hx hk=>?_,by rw[kC,dU,hdc,NH];omega⟩;rcases List.mem_append.1 hx with hx|hx
   .rw[List.mem_singleton.1 hx]at hk⊢;exact⟨n,by simp,h2 hk⟩
   .exact h5 x hx hk
end
def DL:List UInt8:=[46,91,58,42,62,43,126]
def abg(n:Nd):Prop:=n.t.kind=14\/n.t.kind=4\/(n.t.kind=15/\∃c∈([46,91,58,42]:List UInt8),n.t.word=b1 c)
def NdF(D:Nat)(ps:List Pc):Prop:=∃n r,sJ (dA ps) (n::r)/\(∀m∈n::r,DK DL m)/\abg n/\depth (n::r)<=D
theorem NdF.t{D:Nat}{ps:List Pc}(h:NdF D ps):su D DL ps:=by obtain⟨n,r,h1,h2,_,h4⟩:=h;exact⟨_,h1,h2,h4⟩
theorem NdF.append{D:Nat}{a b:List Pc}(h:NdF D a)(k:su D DL b):NdF D (a++b):=by
 obtain⟨n,r,h1,h2,h3,h4⟩:=h;obtain⟨nb,k1,k2,k3⟩:=k;refine⟨n,r++nb,by rw[cO];exact h1.append k1,fun m hm=>?_,h3,by rw[<-List.cons_append,kC];omega⟩;rw[<-List.cons_append]at hm;rcases List.mem_append.1 hm with hm|hm
 .exact h2 m hm
 .exact k2 m hm
theorem Uc{D:Nat}{q:Pc}{t:Tok}(ht:q.tok=some t)(hk:t.kind=14\/t.kind=4):NdF D [q]:=⟨_,_,nX ht oo,fun n hn h=>by rw[List.mem_singleton.1 hn]at h;simp only[Nd.Qq]at h;omega,hk.elim .inl fun h=>.inr (.inl h),by rw[wF (dV oo)];omega⟩
theorem yH{D:Nat}{c:UInt8}(h:c=46\/c=58\/c=42):NdF D [.sign c]:=⟨_,_,J7 (by rcases h with rfl|rfl|rfl<;>decide),fun n hn _=>by rw[List.mem_singleton.1 hn];exact⟨c,by rcases h with rfl|rfl|rfl<;>decide,rfl⟩,.inr (.inr ⟨rfl,c,by rcases h with rfl|rfl|rfl<;>decide,rfl⟩),by rw[wF (wE (by rcases h with rfl|rfl|rfl<;>decide))];omega⟩
theorem Zj{d D:Nat}(hD:d+1<=D){l:List Pc}{L:List UInt8}(h:su d L l)(hL:93 ∉ L):NdF D (.sign 91::(l++[.sign 93])):=by
 obtain⟨ns,h1,h2,h3⟩:=h;have hc:closing (Tok.w 15 (b1 91))=b1 93:=by decide
 have e:dA (.sign 91::(l++[.sign 93]))=Tok.w 15 (b1 91)::(dA l++[Tok.w 15 (closing (Tok.w 15 (b1 91)))]):=by rw[hc];show Tok.w 15 (b1 91)::dA (l++[.sign 93])=_;rw[cO];rfl
 refine⟨_,_,by rw[e];exact h1.block (by rw[hc];exact OW 93) (by rw[hc];exact fun n hn=>(h2 n hn).no hL),fun n hn _=>by rw[List.mem_singleton.1 hn];exact⟨91,by decide,rfl⟩,.inr (.inr ⟨rfl,91,by decide,rfl⟩),zu oo⟩
theorem Ud{d D:Nat}(hD:d+1<=D){w:BY}{l:List Pc}{L M:List UInt8}(h:su d L l)(hL:41 ∉ L):su D M (.func w::(l++[.sign 41])):=by
 obtain⟨ns,h1,h2,h3⟩:=h;have hc:closing (Tok.w 11 (vZ w))=b1 41:=rfl;have e:dA (.func w::(l++[.sign 41]))=Tok.w 11 (vZ w)::(dA l++[Tok.w 15 (closing (Tok.w 11 (vZ w)))]):=by rw[hc];show Tok.w 11 (vZ w)::dA (l++[.sign 41])=_;rw[cO];rfl
 exact⟨_,by rw[e];exact h1.block (by rw[hc];exact OW 41) (by rw[hc];exact fun n hn=>(h2 n hn).no hL),(fun n hn hk=>by rw[List.mem_singleton.1 hn]at hk;cases hk),zu oo⟩
theorem aeo{D:Nat}(hD:1<=D){name how value:BY}(hh:wL how):NdF D (CU name how value):=by
 unfold CU;split
 .exact Zj (d:=0) hD (l:=[.ident name]) (L:=[]) (iF rfl (qA Al)) Al
 .have hs:∀(l:List UInt8),(∀c∈l,c∈([61,126,94,36,42]:List UInt8))->su 0 [61,126,94,36,42] (l.map Pc.sign):=by
   intro l;induction l with
   |nil=>intro _;exact su.nil _ _
   |cons c r ih=>intro hc;have h0:=hc c Ab;refine su.cons (uM ?_ h0) (ih fun x hx=>hc x (by simp[hx]));simp only[List.mem_cons,List.not_mem_nil,or_false]at h0;rcases h0 with rfl|rfl|rfl|rfl|rfl<;>decide
  have hw:∀c∈how.data.toList,c∈([61,126,94,36,42]:List UInt8):=by rcases hh with rfl|rfl|rfl|rfl|rfl|rfl<;>decide
  have h1:su 0 [61,126,94,36,42] (.ident name::(how.data.toList.map Pc.sign++[.text value])):=su.cons (iF rfl (qA Al)) ((hs _ hw).append (iF rfl (qA Al)));have h2:=Zj (D:=D) hD h1 Al;have e:(Pc.ident name::(how.data.toList.map Pc.sign++[.text value]))++[.sign 93]=.ident name::(how.data.toList.map Pc.sign++[.text value,.sign 93]):=by simp
  rw[e]at h2;exact h2
theorem abh[bV](n:Nat):su 0 [] [yA n]:=by
 unfold yA;split
 .exact iF rfl (qA Al)
 .split
  .exact iF rfl (qA Al)
  .exact iF rfl (qA Al)
theorem aep{D b:Nat}(h:Io b):su D DL (Iy b):=by
 rcases h with rfl|rfl|rfl|rfl
 .exact iF rfl (wY Al)
 .exact su.cons (iF rfl (wY Al)) (su.cons (uM (c:=62) Al Al) (iF rfl (wY Al)))
 .exact su.cons (iF rfl (wY Al)) (su.cons (uM (c:=43) Al Al) (iF rfl (wY Al)))
 .exact su.cons (iF rfl (wY Al)) (su.cons (uM (c:=126) Al Al) (iF rfl (wY Al)))
mutual
theorem ndS[bV]:∀(s:Simple) (D:Nat),Tf s->ddS s D->NdF D (pcS s)
 |.mk kind name how value list place,D,h,hd=>by
  simp only[Tf]at h;simp only[ddS]at hd;unfold pcS;split
  .split
   .exact yH (.inr (.inr rfl))
   .exact Uc rfl (.inl rfl)
  .rename_i k1;split
   .exact Uc rfl (.inr rfl)
   .rename_i k2;split
    .exact(yH (c:=46) (.inl rfl)).append (b:=[.ident name]) (iF rfl (qA Al))
    .rename_i k3;split
     .rename_i k4;refine aeo (hd.1 k4) ?_;rcases h.1 with h|h|h|h
      .exact absurd h k1
      .omega
      .exact h.2.2
      .omega
     .rename_i k4;have hd2:=hd.2 ⟨k1,k2,k3,k4⟩;split
      .rename_i hn;have hd3:=hd2.1 hn;have ih:=ndL list (D-1) h.2.2 hd3.2;exact(yH (c:=58) (.inr (.inl rfl))).append (b:=.func name::(Vh [] list++[.sign 41])) (Ud (d:=D-1) (D:=D) (by have:=hd3.1;omega) ih Al)
      .split
       .rename_i hn;have hd3:=hd2.2 hn;exact(yH (c:=58) (.inr (.inl rfl))).append (b:=.func name::([yA place]++[.sign 41])) (Ud (d:=0) (D:=D) oo (abh place) Al)
       .exact(yH (c:=58) (.inr (.inl rfl))).append (b:=[.ident name]) (iF rfl (qA Al))
theorem ndA[bV]:∀(l:List Simple) (D:Nat),KQ l->L8 l D->su D DL (OZ l)
 |[],_,_,_=>by unfold OZ;exact su.nil _ _
 |s::r,D,h,hd=>by simp only[KQ]at h;simp only[L8]at hd;unfold OZ;exact(ndS s D h.1 hd.1).t.append (ndA r D h.2 hd.2)
theorem ndR[bV]:∀(l:List (Nat×List Simple)) (D:Nat),sfR l->ddC l D->su D DL (D8 l)
 |[],_,_,_=>by unfold D8;exact su.nil _ _
 |(b,all)::r,D,h,hd=>by simp only[sfR]at h;simp only[ddC,ddT]at hd;unfold D8 Xm;exact((aep h.1).append (ndA all D h.2.2.2.1 hd.1)).append (ndR r D h.2.2.2.2 hd.2)
theorem ndC[bV]:∀(l:List (Nat×List Simple)) (D:Nat),sfC l->ddC l D->NdF D (D8 l)
 |[],_,h,_=>by simp only[sfC]at h
 |(b,all)::r,D,h,hd=>by
  simp only[sfC]at h;simp only[ddC,ddT]at hd;have hb:Iy b=[]:=by rw[h.1];rfl
  unfold D8 Xm;rw[hb,List.nil_append];have hr:=ndR r D h.2.2.2.2 hd.2;match all,h.2.1,h.2.2.2.1,hd.1 with
  |s::q,_,hs,hq=>simp only[KQ]at hs;simp only[L8]at hq;unfold OZ;exact((ndS s D hs.1 hq.1).append (ndA q D hs.2 hq.2)).append hr
theorem ndL[bV]:∀(l:List (List (Nat×List Simple))) (D:Nat),F9 l->TW l D->su D (44::DL) (Vh [] l)
 |[],_,_,_=>by unfold Vh;exact su.nil _ _
 |c::r,D,h,hd=>by simp only[F9]at h;simp only[TW]at hd;unfold Vh;exact(su.nil _ _).append (((ndC c D h.1 hd.1).t.mono (fun x hx=>List.mem_cons_of_mem _ hx)).append (alR r D h.2 hd.2))
theorem alR[bV]:∀(l:List (List (Nat×List Simple))) (D:Nat),F9 l->TW l D->su D (44::DL) (uH [] l)
 |[],_,_,_=>by unfold uH;exact su.nil _ _
 |c::r,D,h,hd=>by simp only[F9]at h;simp only[TW]at hd;unfold uH;exact su.cons (uM Al Al) ((su.nil _ _).append (((ndC c D h.1 hd.1).t.mono (fun x hx=>List.mem_cons_of_mem _ hx)).append (alR r D h.2 hd.2)))
end
def aix:Nd:=.mk (Tok.w 15 (b1 44)) []
def uO(PA:List Nd):List (List Nd)->List Nd
 |[]=>[]
 |x::r=>aix::(PA++(x++uO PA r))
def pI(PA:List Nd):List (List Nd)->List Nd
 |[]=>[]
 |x::r=>PA++(x++uO PA r)
def L9(D:Nat)(x:List Nd):Prop:=∃n r,x=n::r/\(∀m∈x,DK DL m)/\abg n/\depth x<=D
theorem aj0[bV](pa:List Pc)(PA:List Nd)(hpa:sJ (dA pa) PA):∀(l:List (List (Nat×List Simple))) (D:Nat),F9 l->TW l D->∃xs:List (List Nd),xs.length=l.length/\sJ (dA (Vh pa l)) (pI PA xs)/\∀x∈xs,L9 D x
 |[],_,_,_=>by unfold Vh;exact⟨[],rfl,sJ.nil,by simp⟩
 |c::r,D,h,hd=>by
  simp only[F9]at h;simp only[TW]at hd;obtain⟨n,q,h1,h2,h3⟩:=ndC c D h.1 hd.1;have hl:∀(l:List (List (Nat×List Simple))),F9 l->TW l D->∃xs:List (List Nd),xs.length=l.length/\sJ (dA (uH pa l)) (uO PA xs)/\∀x∈xs,L9 D x:=by
   intro l;induction l with
   |nil=>intro _ _;unfold uH;exact⟨[],rfl,sJ.nil,by simp⟩
   |cons c r ih=>
    intro h hd;simp only[F9]at h;simp only[TW]at hd;obtain⟨n,q,h1,h2,h3⟩:=ndC c D h.1 hd.1;obtain⟨xs,h0,h4,h5⟩:=ih h.2 hd.2;unfold uH;refine⟨(n::q)::xs,by simp[h0],?_,fun x hx=>?_⟩
    .have e:dA (.sign 44::(pa++(D8 c++uH pa r)))=dA [.sign 44]++(dA pa++(dA (D8 c)++dA (uH pa r))):=by
      rw[<-cO,<-cO,<-cO];rfl
     rw[e];exact(J7 Al).append (hpa.append (h1.append h4))
    .rcases List.mem_cons.1 hx with rfl|hx
     .exact⟨n,q,rfl,h2,h3⟩
     .exact h5 x hx
  obtain⟨xs,h0,h4,h5⟩:=hl r h.2 hd.2;unfold Vh;refine⟨(n::q)::xs,by simp[h0],?_,fun x hx=>?_⟩
  .rw[cO,cO];exact hpa.append (h1.append h4)
  .rcases List.mem_cons.1 hx with rfl|hx
   .exact⟨n,q,rfl,h2,h3⟩
   .exact h5 x hx
theorem yI:∀(a rest:List Nd) (out:List (List Nd)) (cur:List Nd),(∀n∈a,dN n (b1 44)=false)->iZ out cur (a++rest)=iZ out (cur++a) rest
 |[],rest,out,cur,_=>by rw[List.nil_append,List.append_nil]
 |n::r,rest,out,cur,h=>by
  rw[List.cons_append];conv=>lhs;unfold iZ
  rw[if_neg (by rw[h n (by simp)];simp),yI r rest out _ (fun m hm=>h m (by simp[hm])),List.append_assoc];rfl
theorem J8(PA:List Nd)(hPA:∀n∈PA,dN n (b1 44)=false):∀(xs:List (List Nd)) (out:List (List Nd)) (cur:List Nd),(∀x∈xs,∀n∈x,dN n (b1 44)=false)->iZ out cur (uO PA xs)=out++cur::xs.map (fun x=>PA++x)
 |[],out,cur,_=>by unfold uO iZ;simp
 |x::r,out,cur,h=>by
  unfold uO;conv=>lhs;unfold iZ
  rw[if_pos (by decide),yI PA _ _ _ hPA,yI x _ _ _ (h x (by simp)),List.nil_append,J8 PA hPA r _ _ (fun y hy=>h y (by simp[hy]))];simp
theorem Ue(PA:List Nd)(hPA:∀n∈PA,dN n (b1 44)=false)(xs:List (List Nd))(hx:∀x∈xs,∀n∈x,dN n (b1 44)=false)(hne:xs≠[]):parted (pI PA xs)=xs.map (fun x=>PA++x):=by
 match xs,hne with
 |x::r,_=>unfold parted pI;rw[yI PA _ _ _ hPA,yI x _ _ _ (hx x (by simp)),List.nil_append,J8 PA hPA r _ _ (fun y hy=>hx y (by simp[hy]))];rfl
theorem Bl{n:Nd}{r:List Nd}(h:iH n=false):aH (n::r)=n::r:=by unfold aH;rw[if_neg (by rw[h];simp)]
theorem NI{n:Nd}(h:iH n=false):∀(a b:List Nd),∃q,aH (a++n::b)=q++n::b
 |[],b=>⟨[],Bl h⟩
 |m::r,b=>by
  rw[List.cons_append];unfold aH;split
  .exact NI h r b
  .exact⟨m::r,rfl⟩
theorem aer{d n:Nd}(hd:iH d=false)(hn:iH n=false)(a r:List Nd):∃q,bare (d::(a++n::r))=d::(a++n::q):=by
 unfold bare lJ;rw[Bl hd];have e:(d::(a++n::r)).reverse=r.reverse++n::(a.reverse++[d]):=by simp
 rw[e];obtain⟨q,hq⟩:=NI hn r.reverse (a.reverse++[d]);rw[hq];exact⟨q.reverse,by simp⟩
def abj(c:Nat):Prop:=c=32\/c=62\/c=43\/c=126
def Pre(root:BY)(cx:List Step):Prop:=∃c rest,cx=(0,[Simple.of 46 root])::(32,c)::rest/\∀st∈rest,abj st.1
theorem aes{l r:List Nd}{c:Nat}(h:gU l=some (c,r)):abj c:=by
 unfold abj;unfold gU at h;split at h
 .split at h
  .cases h
  .cases h;decide
 .split at h
  .cases h;decide
  split at h
  .cases h;decide
  split at h
  .cases h;decide
  split at h
  .cases h;decide
  .cases h
theorem Aa(rec:List Nd->Option bY):∀(f b:Nat) (l:List Nd) (x:List Step),bD rec f b l=some x->∃all rest,x=(b,all)::rest/\∀st∈rest,abj st.1
 |0,_,_,_,h=>by simp[bD]at h
 |f+1,b,l,x,h=>by
  unfold bD at h;split at h
  .cases h
  .rename_i all r hc;split at h
   .cases h
   .split at h
    .cases h;exact⟨all,[],rfl,by simp⟩
    .split at h
     .cases h
     .rename_i c r' hcb;cases hx:bD rec f c r' with
      |none=>rw[hx]at h;cases h
      |some y=>
       rw[hx]at h;simp at h;subst h;obtain⟨all2,rest,rfl,hr⟩:=Aa rec f c r' y hx;refine⟨all,_,rfl,fun st hst=>?_⟩;rcases List.mem_cons.1 hst with rfl|hst
       .exact aes hcb
       .exact hr st hst
def abk:Nd:=.mk (Tok.w 15 (b1 46)) []
def Bo(root:BY):Nd:=.mk (Tok.w 14 root) []
def PD:Nd:=.mk (Tok.k 1) []
def zH(root:BY):List Nd:=[abk,Bo root,PD]
theorem Uf{n:Nd}(h:abg n):iH n=false/\dN n (b1 62)=false/\dN n (b1 43)=false/\dN n (b1 126)=false:=by
 unfold abg at h;have key:∀d:UInt8,d ∉ ([46,91,58,42]:List UInt8)->dN n (b1 d)=false:=by
  intro d hd;rcases h with h|h|h
  .unfold dN au;simp[h]
  .unfold dN au;simp[h]
  .obtain⟨_,c,hc,e⟩:=h;exact DK.no (L:=[46,91,58,42]) (n:=n) (fun _=>⟨c,hc,e⟩) hd
 refine⟨?_,key 62 Al,key 43 Al,key 126 Al⟩;unfold iH;rcases h with h|h|h
 .simp[h]
 .simp[h]
 .simp[h.1]
theorem Ug(rec:List Nd->Option bY)(root:BY){n:Nd}{q:List Nd}(hn:abg n)(f:Nat)(x:List Step)(h:bD rec f 0 (zH root++n::q)=some x):Pre root x:=by
 obtain⟨h1,h2,h3,h4⟩:=Uf hn;cases f with
 |zero=>simp[bD]at h
 |succ f=>
  have hc:aZ rec (zH root++n::q)=some ([Simple.of 46 root],PD::n::q):=by
   have e1:kP (zH root++n::q)=([],zH root++n::q):=by show kP (abk::Bo root::PD::n::q)=_;unfold kP;simp only;rw[if_neg (by decide),if_neg (by decide)];rfl
   unfold aZ;rw[e1];show bZ rec [] (abk::Bo root::PD::n::q)=_;unfold bZ;rw[if_neg (by decide),if_pos (by decide),if_pos (by rfl)];unfold bZ;rw[if_neg (by decide),if_neg (by decide),if_neg (by decide),if_neg (by decide)];rfl
  have hcb:gU (PD::n::q)=some (32,n::q):=by
   have e:aH (PD::n::q)=n::q:=by unfold aH;rw[if_pos (by decide)];exact Bl h1
   unfold gU;rw[e];simp only;rw[if_neg (by rw[h2];simp),if_neg (by rw[h3];simp),if_neg (by rw[h4];simp),if_pos (by simp)]
  unfold bD at h;rw[hc]at h;simp only[hcb]at h;rw[if_neg (by simp),if_neg (by simp)]at h;cases hx:bD rec f 32 (n::q)with
  |none=>rw[hx]at h;cases h
  |some y=>rw[hx]at h;simp at h;subst h;obtain⟨all,rest,rfl,hr⟩:=Aa rec f 32 _ y hx;exact⟨all,rest,rfl,hr⟩
theorem NJ(rec:List Nd->Option bY):∀(ps:List (List Nd)) (ss:bY),fZ rec ps=some ss->∀c∈ss,∃p∈ps,je rec (bare p)=some c
 |[],ss,h,c,hc=>by simp[fZ]at h;subst h;cases hc
 |p::r,ss,h,c,hc=>by
  unfold fZ at h;split at h
  .cases h
  .rename_i s hs;cases hx:fZ rec r with
   |none=>rw[hx]at h;cases h
   |some y=>
    rw[hx]at h;simp at h;subst h;rcases List.mem_cons.1 hc with rfl|hc
    .exact⟨p,by simp,hs⟩
    .obtain⟨q,q1,q2⟩:=NJ rec r y hx c hc;exact⟨q,by simp[q1],q2⟩
theorem aj1(root:BY):∀n∈zH root,dN n (b1 44)=false:=by
 intro n hn;unfold zH at hn;simp only[List.mem_cons,List.not_mem_nil,or_false]at hn;rcases hn with rfl|rfl|rfl
 .decide
 .unfold dN au Bo;simp[Tok.w]
 .decide
theorem L9.no{D:Nat}{x:List Nd}(h:L9 D x):∀n∈x,dN n (b1 44)=false:=by obtain⟨_,_,_,h2,_⟩:=h;exact fun n hn=>(h2 n hn).no Al
theorem aeu{D:Nat}(root:BY){xs:List (List Nd)}(hx:∀x∈xs,L9 D x)(hne:xs≠[])(f:Nat)(ss:bY)(h:lM f (pI (zH root) xs)=some ss):∀cx∈ss,Pre root cx:=by
 have key:∀rec,oz rec (pI (zH root) xs)=some ss->∀cx∈ss,Pre root cx:=by
  intro rec h cx hc;unfold oz at h;rw[Ue _ (aj1 root) xs (fun x hm=>(hx x hm).no) hne]at h;split at h
  .cases h
  .obtain⟨p,hp,e⟩:=NJ rec _ ss h cx hc;obtain⟨x,hm,rfl⟩:=List.mem_map.1 hp;obtain⟨n,q,rfl,_,hf,_⟩:=hx x hm;obtain⟨q',hq⟩:=aer (d:=abk) (n:=n) Al (Uf hf).1 [Bo root,PD] q;have e2:bare (zH root++n::q)=zH root++n::q':=hq;unfold je at e;rw[e2]at e;exact Ug rec root hf _ cx e
 cases f with
 |zero=>exact key _ h
 |succ f=>exact key _ h
theorem J9(stop:Nd->Bool):∀(a:List Nd) (b:Nd) (r:List Nd),(∀n∈a,stop n=false)->stop b=true->bG stop (a++b::r)=(a,some b,r)
 |[],b,r,_,hb=>by show bG stop (b::r)=_;unfold bG;rw[if_pos hb]
 |n::a,b,r,h,hb=>by rw[List.cons_append];unfold bG;rw[if_neg (by rw[h n (by simp)];simp),J9 stop a b r (fun m hm=>h m (by simp[hm])) hb]
theorem Ko(sh:Bool){f:Nat}{l:List Nd}(h:l.length<=f):fM f sh l=rules sh l:=xQ sh f l.length l h nl
theorem abl{h:List Nd}{b:Nd}(hf:∀n q,h=n::q->oG true n=false/\n.t.kind≠10)(hb:∀m∈h,aK m=false)(hbb:aK b=true)(rest:List Nd):rules true (h++b::rest)=⟨none,h,some b.kids⟩::rules true rest:=by
 have acH:b.t.kind=15:=by unfold aK dN au at hbb;simp only[Bool.and_eq_true,decide_eq_true_eq]at hbb;exact hbb.1
 obtain⟨n,q,e,hn⟩:∃n q,h++b::rest=n::q/\oG true n=false/\n.t.kind≠10:=by
  match h,hf with
  |[],_=>exact⟨b,rest,rfl,by unfold oG iH;simp[acH],oo⟩
  |n::q,hf=>exact⟨n,q++b::rest,rfl,hf n q rfl⟩
 have hc:=J9 aK h b rest hb hbb;rw[e]at hc;rw[e];show fM (q.length+1) true (n::q)=_;unfold fM;rw[if_neg (by rw[hn.1];simp),if_neg hn.2,hc];simp only;rw[Ko true];have:=congrArg List.length e;simp only[List.length_append,List.length_cons]at this;omega
theorem aev{t:Nd}{h:List Nd}{b:Nd}(ht:t.t.kind=10)(hh:∀m∈h,(aS m||aK m)=false)(hbb:aK b=true)(rest:List Nd):rules true (t::(h++b::rest))=⟨some t.t.word,h,some b.kids⟩::rules true rest:=by have hc:=J9 (fun m=>aS m||aK m) h b rest hh (by simp[hbb]);show fM ((h++b::rest).length+1) true (t::(h++b::rest))=_;unfold fM;rw[if_neg (by unfold oG iH;simp[ht]),if_pos ht,hc];simp only;rw[Ko true (by simp only[List.length_append,List.length_cons];omega)];unfold gV;simp only;rw[if_pos hbb]
def oq(D:Nat)(C:Rule->Prop)(o:BY):Prop:=∃ps ns,o.data.toList=flat ps/\(∀X,Good ps X)/\sJ (dA ps) ns/\depth ns<=D/\(∀n∈ns,au n.t (b1 125)=false)/\∃rs,(∀rest,rules true (ns++rest)=rs++rules true rest)/\∀r∈rs,C r
theorem oq.nil(D:Nat)(C:Rule->Prop):oq D C aA:=⟨[],[],rfl,fun _=>trivial,sJ.nil,by simp[depth],by simp,[],fun _=>rfl,by simp⟩
theorem oq.append{D:Nat}{C:Rule->Prop}{a b:BY}(h:oq D C a)(k:oq D C b):oq D C (a++b):=by
 obtain⟨pa,na,a1,a2,a3,a0,a4,ra,a5,a6⟩:=h;obtain⟨pb,nb,c1,c2,c3,c0,c4,rb,c5,c6⟩:=k;refine⟨pa++pb,na++nb,by rw[kV,a1,c1,aN],fun X=>(a2 _).append (c2 X),by rw[cO];exact a3.append c3,by rw[kC];omega,fun n hn=>?_,ra++rb,fun rest=>?_,fun r hr=>?_⟩
 .rcases List.mem_append.1 hn with hn|hn
  .exact a4 n hn
  .exact c4 n hn
 .rw[List.append_assoc,a5,c5,List.append_assoc]
 .rcases List.mem_append.1 hr with hr|hr
  .exact a6 r hr
  .exact c6 r hr
theorem oq.cat{D:Nat}{C:Rule->Prop}:∀(l:List BY),(∀o∈l,oq D C o)->oq D C (cat l)
 |[],_=>oq.nil D C
 |a::r,h=>(h a Ab).append (oq.cat r fun o ho=>h o (by simp[ho]))
def bodyT:List UInt8:=[33,37,40,42,43,44,45,46,47,58,59,61,91,123]
def mJ(D:Nat)(C:List UInt8->Prop)(o:BY):Prop:=∃ps,o.data.toList=flat ps/\(∀X,C X->Good ps X)/\su D bodyT ps
theorem mJ.nil(D:Nat)(C:List UInt8->Prop):mJ D C aA:=⟨[],rfl,fun _ _=>trivial,su.nil _ _⟩
theorem mJ.append{k:Nat}{C D:List UInt8->Prop}{a b:BY}(ha:mJ k C a)(hb:mJ k D b)(h:∀X,D X->C (b.data.toList++X)):mJ k D (a++b):=by obtain⟨pa,a1,a2,a3⟩:=ha;obtain⟨pb,b1,b2,b3⟩:=hb;exact⟨pa++pb,by rw[kV,a1,b1,aN],fun X hX=>(a2 _ (by rw[<-b1];exact h X hX)).append (b2 X hX),a3.append b3⟩
theorem mJ.wide{k:Nat}{C D:List UInt8->Prop}{a:BY}(ha:mJ k C a)(h:∀X,D X->C X):mJ k D a:=by obtain⟨pa,a1,a2,a3⟩:=ha;exact⟨pa,a1,fun X hX=>a2 X (h X hX),a3⟩
theorem PE{D:Nat}(C:List UInt8->Prop){c:UInt8}(h:c∈lT/\c≠43/\c≠45/\c≠46/\c≠47)(h2:c≠40/\c≠91/\c≠123)(h3:c∈bodyT):mJ D C (b1 c):=⟨[.sign c],rfl,fun _ _=>fK h trivial,uM h2 h3⟩
theorem alS{p:aF}{t:Tok}{k:List Nd}(h:vT p t k)(e:t.kind=15):∃c∈bodyT,t.word=b1 c:=by
 have hh:=h.harm;unfold oI at hh;rw[if_neg oo,if_pos e]at hh;rcases jo e with c|⟨c,_⟩|⟨c,_⟩|⟨c,_⟩
 .rw[c]at hh;simp only[decide_true,Bool.not_true,Bool.false_or]at hh;unfold vk at hh;simp only[Bool.or_eq_true,decide_eq_true_eq]at hh;rcases hh with (((((((h|h)|h)|h)|h)|h)|h)|h)|h<;>exact⟨_,by decide,h⟩
 .exact⟨40,by decide,c⟩
 .exact⟨91,by decide,c⟩
 .exact⟨123,by decide,c⟩
theorem aew{D:Nat}{p:aF}{a:Option Tok}{l:List Nd}(h:vL p l)(hD:depth l<=D):su D bodyT (zZ a l):=by obtain⟨ns,h1,h2,h3⟩:=ndF p a l h;refine⟨ns,h1,fun m hm hk=>?_,oo⟩;obtain⟨n,n1,n2,n3⟩:=h2 m hm hk;obtain⟨c,hc,e⟩:=alS ((EJ p n).1 ((Xf p l).1 h n n1)).1 n2;exact⟨c,hc,by rw[<-n3,e]⟩
theorem ahn{D:Nat}{p:aF}{l:List Nd}(h:vL p l)(hD:depth l<=D):mJ D LZ (written l):=⟨zZ none l,Dw p none l h,fun X hX=>Td p none l X h hX,aew h hD⟩
theorem Uh{D:Nat}{w:BY}(h:0<w.size):mJ D (fun X=>iw (jy X)) (dP w):=⟨[.ident w],by rw[pR];simp[flat,Pc.bytes],fun _ hX=>⟨h,nV hX,trivial⟩,iF rfl (qA Al)⟩
theorem aj2{D:Nat}{p:aF}{d:Dec}(h0:0<d.prop.size)(h:vL p d.val)(hD:depth d.val<=D):mJ D LZ (jW d):=by
 have hi:mJ D LZ (if d.imp=true then ZX else aA):=by
  split
  .rw[adN];exact(PE ajC Al Al Al).append ((Uh Al).wide fun X=>agL) fun _ _=>trivial
  .exact mJ.nil _ _
 have hv:mJ D LZ (written d.val++(if d.imp=true then ZX else aA)):=(ahn h hD).append hi fun X hX=>by
  split
  .exact⟨rfl,show(33:Int)≠32 by decide⟩
  .exact hX
 unfold jW;exact(Uh h0).append ((PE ajC Al Al Al).append hv fun _ _=>trivial) fun X _=>by rw[kV];exact(show iw 58 by unfold iw;decide)
theorem Zk{D:Nat}:∀(l:List BY),(∀o∈l,mJ D LZ o)->mJ D LZ (jX (b1 59) l)
 |[],_=>mJ.nil _ _
 |[a],h=>h a Ab
 |a::b::r,h=>by
  show mJ D LZ (a++(b1 59++jX (b1 59) (b::r)));have ih:=Zk (b::r) fun o ho=>h o (by simp[List.mem_cons.1 ho]);exact(h a Ab).append ((PE ajC Al Al Al).append ih fun _ _=>trivial) fun X _=>by rw[kV];exact⟨rfl,show(59:Int)≠32 by decide⟩
theorem aho{D:Nat}{p:aF}{l:List Nd}(hg:gL l)(hu:uL l)(hD:depth l<=D):mJ D LZ (tX p l):=by unfold tX;refine Zk _ fun o ho=>?_;obtain⟨d,hd,rfl⟩:=List.mem_map.1 ho;obtain⟨hd1,hd2⟩:=List.mem_filter.1 hd;have hs:=(Dl l).2 d hd1;unfold kR at hd2;simp only[Bool.and_eq_true]at hd2;exact aj2 (Dy _ l hg d hd1) (aiu (qw hg hs) (OV hu hs) hd2.1.2) (qh fun n hn=>mG hD n (hs n hn))
theorem NK{ps:List Pc}{ns:List Nd}(h:sJ (dA ps) ns)(hn:∀n∈ns,au n.t (b1 125)=false):sJ (dA (.sign 123::(ps++[.sign 125]))) [.mk (Tok.w 15 (b1 123)) ns]:=by
 have hc:closing (Tok.w 15 (b1 123))=b1 125:=by decide
 have e:dA (.sign 123::(ps++[.sign 125]))=Tok.w 15 (b1 123)::(dA ps++[Tok.w 15 (closing (Tok.w 15 (b1 123)))]):=by rw[hc];show Tok.w 15 (b1 123)::dA (ps++[.sign 125])=_;rw[cO];rfl
 rw[e];exact h.block (by rw[hc];exact OW 125) (by rw[hc];exact hn)
theorem Kq(ns:List Nd):aK (.mk (Tok.w 15 (b1 123)) ns)=true:=by unfold aK dN au;simp[Tok.w]
theorem Ui(ns:List Nd):au (Nd.mk (Tok.w 15 (b1 123)) ns).t (b1 125)=false:=by simp only[Nd.Qq];decide
def kF(p:aF):List Nd:=if p.root=aA then [] else zH p.root
theorem aj3{w:BY}(h:w.data.toList.all jh=true):vZ w=w:=adL fun c hc e=>by have:=List.all_eq_true.1 h c hc;unfold jh at this;simp at this;omega
theorem abm{p:aF}(h:p.root.data.toList.all jh=true):sJ (dA (rW p)) (kF p):=by
 unfold rW kF;split
 .exact sJ.nil
 .have e:dA [.sign 46,.ident p.root,.blank]=[Tok.w 15 (b1 46)]++([Tok.w 14 p.root]++[Tok.k 1]):=by
   show [Tok.w 15 (b1 46),Tok.w 14 (vZ p.root),Tok.k 1]=_;rw[aj3 h];rfl
  rw[e];exact(sJ.leaf (wE Al)).append ((sJ.leaf (dV (qA Al))).append (sJ.leaf (dV (wY Al))))
def wG(root:BY)(r:Rule):Prop:=r.at_.getD aA≠aA\/(root≠aA->∀ss,lM (depth r.head) r.head=some ss->∀cx∈ss,Pre root cx)
theorem NM(rec:List Nd->Option bY):∀(ps:List (List Nd)) (ss:bY),fZ rec ps=some ss->ss.length=ps.length
 |[],ss,h=>by simp[fZ]at h;subst h;rfl
 |p::r,ss,h=>by
  unfold fZ at h;split at h
  .cases h
  .cases hx:fZ rec r with
   |none=>rw[hx]at h;cases h
   |some y=>rw[hx]at h;simp at h;subst h;rw[List.length_cons,List.length_cons,NM rec r y hx]
theorem Kr:∀(l:List Nd) (out:List (List Nd)) (cur:List Nd),iZ out cur l≠[]
 |[],out,cur=>by unfold iZ;simp
 |n::r,out,cur=>by
  unfold iZ;split
  .exact Kr r _ _
  .exact Kr r _ _
theorem ahp{f:Nat}{l:List Nd}{ss:bY}(h:lM f l=some ss):ss≠[]:=by
 have key:∀rec,oz rec l=some ss->ss≠[]:=by
  intro rec h;unfold oz at h;split at h
  .cases h
  .have:=NM rec _ _ h;rintro rfl;exact Kr l [] [] (List.eq_nil_of_length_eq_zero this.symm)
 cases f with
 |zero=>exact key _ h
 |succ f=>exact key _ h
theorem Uj{D:Nat}(PA:List Nd)(hPA:∀n∈PA,DK (44::DL) n):∀(xs:List (List Nd)),(∀x∈xs,L9 D x)->∀n∈uO PA xs,DK (44::DL) n
 |[],_,n,hn=>by cases hn
 |x::r,h,n,hn=>by
  unfold uO at hn;rcases List.mem_cons.1 hn with rfl|hn
  .exact fun _=>⟨44,by decide,rfl⟩
  .rcases List.mem_append.1 hn with hn|hn
   .exact hPA n hn
   .rcases List.mem_append.1 hn with hn|hn
    .obtain⟨_,_,_,h2,_⟩:=h x Ab;exact(h2 n hn).mono fun c hc=>List.mem_cons_of_mem _ hc
    .exact Uj PA hPA r (fun y hy=>h y (by simp[hy])) n hn
theorem aex{D:Nat}(PA:List Nd)(hPA:∀n∈PA,DK (44::DL) n)(xs:List (List Nd))(h:∀x∈xs,L9 D x):∀n∈pI PA xs,DK (44::DL) n:=by
 match xs,h with
 |[],_=>intro n hn;cases hn
 |x::r,h=>
  intro n hn;unfold pI at hn;rcases List.mem_append.1 hn with hn|hn
  .exact hPA n hn
  .rcases List.mem_append.1 hn with hn|hn
   .obtain⟨_,_,_,h2,_⟩:=h x Ab;exact(h2 n hn).mono fun c hc=>List.mem_cons_of_mem _ hc
   .exact Uj PA hPA r (fun y hy=>h y (by simp[hy])) n hn
theorem XH(p:aF):∀n∈kF p,DK (44::DL) n:=by
 unfold kF;split
 .intro n hn;cases hn
 .intro n hn;unfold zH at hn;simp only[List.mem_cons,List.not_mem_nil,or_false]at hn;rcases hn with rfl|rfl|rfl
  .exact fun _=>⟨46,by decide,rfl⟩
  .exact fun h=>by cases h
  .exact fun h=>by cases h
theorem abn{n:Nd}(h:abg n):oG true n=false/\n.t.kind≠10:=by
 unfold oG iH;rcases h with h|h|h
 .simp[h]
 .simp[h]
 .simp[h.1]
theorem XK{D:Nat}(p:aF)(xs:List (List Nd))(h:∀x∈xs,L9 D x):∀n q,pI (kF p) xs=n::q->oG true n=false/\n.t.kind≠10:=by
 intro n q e;match xs,h with
 |[],_=>cases e
 |x::r,h=>
  by_cases hr:p.root=aA
  .have ea:kF p=[]:=by unfold kF;rw[if_pos hr]
   rw[ea]at e;obtain⟨m,s,rfl,_,hf,_⟩:=h x Ab;have e2:m::(s++uO [] r)=n::q:=e;rw[<-(List.cons.inj e2).1];exact abn hf
  .have ea:kF p=zH p.root:=by unfold kF;rw[if_neg hr]
   rw[ea]at e;have e2:abk::([Bo p.root,PD]++(x++uO (zH p.root) r))=n::q:=e;rw[<-(List.cons.inj e2).1];decide
theorem abo{D:Nat}(PA:List Nd)(hPA:depth PA=0)(xs:List (List Nd))(h:∀x∈xs,L9 D x):depth (pI PA xs)<=D:=by
 have ht:∀(xs:List (List Nd)),(∀x∈xs,L9 D x)->depth (uO PA xs)<=D:=by
  intro xs;induction xs with
  |nil=>intro _;simp[uO,depth]
  |cons x r ih=>
   intro h;obtain⟨_,_,_,_,_,hx⟩:=h x Ab;have:=ih fun y hy=>h y (by simp[hy]);have hc:eU aix=0:=by decide
   unfold uO;rw[dU,kC,kC,hc];omega
 match xs,h with
 |[],_=>simp[pI,depth]
 |x::r,h=>obtain⟨_,_,_,_,_,hx⟩:=h x Ab;have:=ht r fun y hy=>h y (by simp[hy]);unfold pI;rw[kC,kC];omega
theorem Uk(p:aF):depth (kF p)=0:=by
 unfold kF;split
 .simp[depth]
 .unfold zH;rw[dU,dU,dU,NH,show eU abk=0 by decide,show eU PD=0 by decide,Bo,qj,if_pos (dV (qA (by decide)))];rfl
theorem abp[bV]{D:Nat}{p:aF}(hr:p.root.data.toList.all jh=true){r:Rule}{b:List Nd}(hh:gL r.head)(hg:gL b)(hu:uL b)(hdh:depth r.head<=D)(hdb:depth b+1<=D):oq D (wG p.root) (H8 p r b):=by
 unfold H8;split
 .exact oq.nil _ _
 .rename_i s hs;split
  .exact oq.nil _ _
  .have hsf:=Y6 _ _ _ (Sm _ hh) hs;have hsn:=ahp hs;obtain⟨xs,hl,hnd,hsel⟩:=aj0 (rW p) (kF p) (abm hr) s D hsf (aen _ _ _ _ hs hdh);obtain⟨pb,b1',b2',nb,b3,b4,b5⟩:=aho (D:=D-1) (p:=p) hg hu oo;have hbn:∀n∈nb,au n.t (b1 125)=false:=fun n hn=>(b4 n hn).no Al;have htop:=aex (kF p) (XH p) xs hsel;have hgood:∀X,Good (Vh (rW p) s++(.sign 123::(pb++[.sign 125]))) X:=by
    intro X;refine Good.append (air (rW p) (Xt p) ?_ s _ hsf (show iw 123 by unfold iw;decide)) ?_
    .unfold rW;split
     .exact .inl rfl
     .exact .inr fun _=>rfl
    .exact fK Al (Good.append (b:=[.sign 125]) (b2' (flat [.sign 125]++X) ⟨rfl,show(125:Int)≠32 by decide⟩) (fK Al trivial))
   refine⟨Vh (rW p) s++(.sign 123::(pb++[.sign 125])),pI (kF p) xs++[.mk (Tok.w 15 (b1 123)) nb],?_,hgood,?_,by rw[kC];have:=abo (kF p) (Uk p) xs hsel;have:=zu (t:=Tok.w 15 (b1 123)) (ns:=nb) (D:=D) oo;omega,?_,[⟨none,pI (kF p) xs,some nb⟩],?_,?_⟩
   .rw[kV,kV,kV,Tt _ _ (adP hr) s hsf,aN,b1'];show flat _++([123]++(flat pb++[125]))=flat _++([123]++flat (pb++[.sign 125]));rw[aN];rfl
   .rw[cO];exact hnd.append (NK b3 hbn)
   .intro n hn;rcases List.mem_append.1 hn with hn|hn
    .exact(htop n hn).no Al
    .rw[List.mem_singleton.1 hn];exact Ui nb
   .intro rest;rw[List.append_assoc,List.singleton_append,abl (XK p xs hsel) (fun m hm=>(htop m hm).no (by decide)) (Kq nb)];rfl
   .intro q hq;rw[List.mem_singleton.1 hq];refine .inr fun hne ss hss=>?_;have e:kF p=zH p.root:=by unfold kF;rw[if_neg hne]
    rw[e]at hss;exact aeu p.root hsel (fun hx=>hsn (List.eq_nil_of_length_eq_zero (by rw[<-hl,hx];rfl))) _ ss hss
theorem Ul(stop:Nd->Bool):∀(l:List Nd),∀n∈(bG stop l).1,stop n=false
 |[],n,h=>by simp[bG]at h
 |m::r,n,h=>by
  unfold bG at h;split at h
  .cases h
  .rename_i hs;rcases List.mem_cons.1 h with rfl|h
   .simpa using hs
   .exact Ul stop r n h
theorem ql(sh:Bool):∀(f:Nat) (l:List Nd),∀r∈fM f sh l,∀w,r.at_=some w->∀n∈r.head,(aS n||aK n)=false
 |0,l=>by simp[fM]
 |f+1,[]=>by simp[fM]
 |f+1,n::r=>by
  unfold fM;split
  .exact ql sh f r
  split
  .intro d hd w hw;simp only at hd;rcases List.mem_cons.1 hd with e|e
   .subst e;exact Ul _ r
   .exact ql sh f _ d e w hw
  .simp only;split
   .simp
   .intro d hd w hw;rcases List.mem_cons.1 hd with e|e
    .subst e;cases hw
    .exact ql sh f _ d e w hw
theorem aey(w:BY):(vZ w).size=w.size:=by show(w.data.toList.map zq).toArray.size=w.data.size;simp
theorem ahq{w ho ro:BY}{pq pr:List Pc}(q1:ho.data.toList=flat pq)(r1:ro.data.toList=flat pr):(b1 64++(dP w++(ho++(b1 123++(ro++b1 125))))).data.toList=flat (Pc.at_ w::(pq++(Pc.sign 123::(pr++[Pc.sign 125])))):=by rw[kV,kV,kV,kV,kV,pR,q1,r1,Xn,Xn,Xn];simp only[flat,aN,Pc.bytes,List.append_nil];simp only[List.cons_append,List.nil_append]
theorem ahr{w:BY}{pq pr:List Pc}(h1:0<w.size)(q2:∀X,LZ X->Good pq X)(q5:∀X,LZ X->uG (flat pq++X))(r2:∀X,Good pr X)(X:List UInt8):Good (Pc.at_ w::(pq++(Pc.sign 123::(pr++[Pc.sign 125])))) X:=by
 obtain⟨Y,hY⟩:∃Y,flat (Pc.sign 123::(pr++[Pc.sign 125]))++X=123::Y:=⟨_,rfl⟩;have hf:LZ (flat (Pc.sign 123::(pr++[Pc.sign 125]))++X):=by rw[hY];exact⟨rfl,show(123:Int)≠32 by decide⟩
 have hst:=q5 _ hf;rw[<-List.append_assoc,<-aN]at hst;have hg:Good (Pc.sign 123::(pr++[Pc.sign 125])) X:=fK Al ((r2 _).append (b:=[.sign 125]) (fK Al trivial));exact⟨h1,hst,(q2 _ hf).append hg⟩
theorem aj6{w:BY}{pq pr:List Pc}{nq nr:List Nd}(q3:sJ (dA pq) nq)(r3:sJ (dA pr) nr)(r4:∀n∈nr,au n.t (b1 125)=false):sJ (dA (Pc.at_ w::(pq++(Pc.sign 123::(pr++[Pc.sign 125]))))) (.mk (Tok.w 10 (vZ w)) []::(nq++[.mk (Tok.w 15 (b1 123)) nr])):=by
 have e:dA (Pc.at_ w::(pq++(Pc.sign 123::(pr++[Pc.sign 125]))))=[Tok.w 10 (vZ w)]++(dA pq++dA (Pc.sign 123::(pr++[Pc.sign 125]))):=by rw[<-cO];rfl
 rw[e];exact(sJ.leaf (dV (qA Al))).append (q3.append (NK r3 r4))
theorem aj7{D:Nat}{root w:BY}{ho ro:BY}{pq pr:List Pc}{nq nr:List Nd}(h1:0<w.size)(q1:ho.data.toList=flat pq)(q2:∀X,LZ X->Good pq X)(q3:sJ (dA pq) nq)(q4:∀n∈nq,(aS n||aK n)=false/\au n.t (b1 125)=false)(q5:∀X,LZ X->uG (flat pq++X))
  (r1:ro.data.toList=flat pr) (r2:∀X,Good pr X) (r3:sJ (dA pr) nr) (r4:∀n∈nr,au n.t (b1 125)=false) (hq:depth nq<=D) (hr:depth nr+1<=D):oq D (wG root) (b1 64++(dP w++(ho++(b1 123++(ro++b1 125))))):=by
 refine⟨_,_,ahq q1 r1,ahr h1 q2 q5 r2,aj6 q3 r3 r4,by rw[dU,kC,qj,if_pos (dV (qA (by decide)))];have:=zu (t:=Tok.w 15 (b1 123)) hr;omega,?_,[⟨some (vZ w),nq,some nr⟩],?_,?_⟩
 .intro n hn;rcases List.mem_cons.1 hn with rfl|hn
  .simp[au,Tok.w]
  .rcases List.mem_append.1 hn with hn|hn
   .exact(q4 n hn).2
   .rw[List.mem_singleton.1 hn];exact Ui nr
 .intro rest;have e:=aev (t:=.mk (Tok.w 10 (vZ w)) []) (h:=nq) (b:=.mk (Tok.w 15 (b1 123)) nr) (by rfl) (fun m hm=>(q4 m hm).1) (Kq nr) rest;rw[List.cons_append,List.append_assoc,List.singleton_append,e];rfl
 .intro q hq;rw[List.mem_singleton.1 hq];refine .inl fun e=>?_;have e2:vZ w=aA:=e;have e3:=congrArg ByteArray.size e2;rw[aey]at e3;have e5:aA.size=0:=rfl;omega
theorem Um[bV]{D:Nat}{p:aF}(ha:p.ats.all gK=true)(hr:p.root.data.toList.all jh=true){rec:List Nd->BY}{r:Rule}(hh:gL r.head)(hu:uL r.head)(h0:∀w,r.at_=some w->0<w.size)(hat:∀w,r.at_=some w->∀n∈r.head,(aS n||aK n)=false)
  (hdh:depth r.head<=D) (hb:∀b,r.body=some b->gL b/\uL b/\depth b+1<=D/\oq (D-1) (wG p.root) (rec b)):oq D (wG p.root) (H9 p rec r):=by
 unfold H9;split
 .rename_i w b hw hbo;obtain⟨_,_,b0,b3⟩:=hb b hbo;split
  .rename_i hc;split
   .exact oq.nil _ _
   .have hs:=TA ha hc.1;have h1:0<(small w).size:=by rw[jE];exact h0 w hw
    have hv:vL p (bare r.head):=aiu (qw hh (nP _)) (OV hu (nP _)) hc.2;obtain⟨pr,nr,r1,r2,r3,r0,r4,_⟩:=b3;obtain⟨pq,nq,q1,q2,q3,q4,q5,q6⟩:∃(pq:List Pc) (nq:List Nd),(qE (bare r.head)).data.toList=flat pq/\(∀X,LZ X->Good pq X)/\sJ (dA pq) nq/\(∀n∈nq,(aS n||aK n)=false/\au n.t (b1 125)=false)/\(∀X,LZ X->uG (flat pq++X))/\depth nq<=D:=by
     obtain⟨ns,n1,n2,n3⟩:=ndF p none (bare r.head) hv;have hbd:depth (bare r.head)<=D:=qh fun n hn=>mG hdh n (nP _ n hn);have hno:∀n∈ns,(aS n||aK n)=false/\au n.t (b1 125)=false:=by
      intro m hm;refine⟨?_,yG hv n2 125 (.inr (.inr rfl)) m hm⟩;cases hq:(aS m||aK m)with
      |false=>rfl
      |true=>
       exfalso
       have hk:m.t.kind=15:=by unfold aS aK dN au at hq;simp only[Bool.or_eq_true,Bool.and_eq_true,decide_eq_true_eq]at hq;omega
       obtain⟨n,m1,m2,m3⟩:=n2 m hm hk;have:=hat w hw n (nP _ n m1);unfold aS aK dN au at this hq;rw[m2,m3]at this;rw[hk]at hq;rw[this]at hq;cases hq
     have hfs:∀X,LZ X->uG X:=fun X hX=>by have:=zn hX.1;exact⟨this.1,this.2.1⟩
     by_cases hne:bare r.head=[]
     .refine⟨[],[],by unfold qE;rw[if_pos hne];rfl,fun _ _=>trivial,sJ.nil,by simp,fun X hX=>hfs X hX,by simp[depth]⟩
     .refine⟨.blank::zZ none (bare r.head),.mk (Tok.k 1) []::ns,?_,fun X hX=>⟨trivial,?_,Td p none _ X hv hX⟩,?_,?_,fun X _=>⟨show lX 32=false by decide,show(32:Int)≠92 by decide⟩,by rw[dU,qj,if_pos (dV (wY (by decide)))];omega⟩
      .unfold qE;rw[if_neg hne,kV];unfold written;rw[Dw p none _ hv];rfl
      .show aO (jy (flat (zZ none (bare r.head))++X))=false;match hl:bare r.head,hne,hv with
       |n::q,_,hv=>simp only[vL]at hv;rw[rQ,if_neg (by simp[Ak])];show aO (jy (flat (([]++pcN n)++zZ (some n.t) q)++X))=false;rw[List.nil_append,aN,List.append_assoc];exact(Xj hv.1 (agM hl) _).1
      .have e:dA (.blank::zZ none (bare r.head))=[Tok.k 1]++dA (zZ none (bare r.head)):=rfl;rw[e];exact(sJ.leaf (dV (wY Al))).append n1
      .intro n hn;rcases List.mem_cons.1 hn with rfl|hn
       .decide
       .exact hno n hn
    have:=aj7 (root:=p.root) h1 q1 q2 q3 q4 q5 r1 r2 r3 r4 q6 oo;exact this
  .exact oq.nil _ _
 .rename_i b hat' hbo;obtain⟨c1,c2,c3,_⟩:=hb b hbo;exact abp hr hh c1 c2 hdh c3
 .exact oq.nil _ _
theorem Zl[bV]{p:aF}(ha:p.ats.all gK=true)(hr:p.root.data.toList.all jh=true):∀(f:Nat) (sh:Bool) (l:List Nd) (D:Nat),gL l->uL l->depth l<=D->oq D (wG p.root) (tY p f sh l)
 |0,sh,l,D,hg,hu,hD=>by unfold tY;refine oq.cat _ fun o ho=>?_;obtain⟨r,hm,rfl⟩:=List.mem_map.1 ho;have h:=mP hg r hm;have hs:=((pO sh l).2 r hm).head;exact Um ha hr h.1 (OV hu hs) (qN sh _ l hg r hm) (ql sh _ l r hm) (qh fun n hn=>mG hD n (hs n hn)) fun b hb=>⟨(h.2.2.1 b hb).1,Xu hm hu hb,by have:=(h.2.2.1 b hb).2;omega,oq.nil _ _⟩
 |f+1,sh,l,D,hg,hu,hD=>by unfold tY;refine oq.cat _ fun o ho=>?_;obtain⟨r,hm,rfl⟩:=List.mem_map.1 ho;have h:=mP hg r hm;have hs:=((pO sh l).2 r hm).head;exact Um ha hr h.1 (OV hu hs) (qN sh _ l hg r hm) (ql sh _ l r hm) (qh fun n hn=>mG hD n (hs n hn)) fun b hb=>⟨(h.2.2.1 b hb).1,Xu hm hu hb,by have:=(h.2.2.1 b hb).2;omega,Zl ha hr f false b (D-1) (h.2.2.1 b hb).1 (Xu hm hu hb) (by have:=(h.2.2.1 b hb).2;omega)⟩
theorem Zm[bV](s:BY)(p:aF):oq 8 (wG p.root) (dR s p).1:=by
 unfold dR;split
 .exact oq.nil _ _
 .rename_i hp;split
  .exact oq.nil _ _
  .rename_i hs;split
   .exact oq.nil _ _
   .rename_i hdp;have h:=aa2 (p:=p) (by simpa using hp);exact Zl h.2.1 h.2.2 _ _ _ 8 (Di oo).1 (agF s) oo
theorem aez{q:Pc}(h:q.ok):∀c∈q.bytes,32<=c.toNat:=by
 intro c hc;by_cases e:q=.sign 62
 .subst e;rw[List.mem_singleton.1 hc];decide
 .exact(agK h e c hc).1
theorem Kt:∀ {l:List Pc}{r:List UInt8},Good l r->∀c∈flat l,32<=c.toNat
 |[],_,_,c,hc=>by cases hc
 |q::l,_,h,c,hc=>by
  rcases List.mem_append.1 (show c∈q.bytes++flat l from hc)with hc|hc
  .exact aez h.1 c hc
  .exact Kt h.2.2 c hc
theorem abq[bV](s:BY)(p:aF):∀c∈(dR s p).1.data.toList,32<=c.toNat:=by obtain⟨ps,ns,h1,h2,_⟩:=Zm s p;rw[h1];exact Kt (h2 [])
end Go.Proofs.YtlliliddljkbfaaGreat.Sp
namespace Go.Proofs.YtlliliddljkbfaaGreat
open Go.Proofs.Tryz (prog)
open Go.RowKit Sp
def nY(sh:List BY):Bool:=sh.any (fun s=>!decide (depth (bH s)<=8))
theorem abr{sh:List BY}{i:Nat}(h:i<sh.length)(h0:nY (sh.take i)=false):nY (sh.take (i+1)) = !decide (depth (bH sh[i])<=8):=by unfold nY at *;rw[List.take_succ_eq_append_getElem h,List.any_append,h0];simp
theorem Un{sh:List BY}{s:BY}(h:s∈sh)(hd:¬depth (bH s)<=8):nY sh=true:=by unfold nY;rw[List.any_eq_true];exact⟨s,h,by rw[decide_eq_false hd];rfl⟩
theorem abt{sh:List BY}(h:nY sh=false):∀s∈sh,depth (bH s)<=8:=by
 intro s hs;by_cases hd:depth (bH s)<=8
 .exact hd
 .rw[Un hs hd]at h;cases h
def rsR(sh:List BY)(w w':WD)(e:Ending):Prop:=if nY sh=true then e=.returned (.tuple #[.slice none 0 0,.bool false]) else ∃u,e=.returned (.tuple #[u,.bool true])/\SG (One dB 4) 1 (oD w.heap.size w') w' u (sh.map KR)
theorem PG(B:Nat)(sh:List BY)(v:Av)(w:WD)(h:SG eX 1 (fun b=>b<B) w v sh)(hB:B<=w.heap.size)(hl:Lit w)(hd:∀s∈sh,s.size<=600):
  Calls prog 35 #[v] w fun e w'=>rsR sh w w' e/\Below w.heap.size w w':=by
 have hln:=h.len;have HS:=hid h;have HL:=hid hl;have HD:=hid hd;have hF:Hid (Fair (One dB 4)):=One.fair dB.fair;obtain⟨a,cap,rfl⟩:=h.form;clear h hl hd;obtain⟨iT,hiT⟩:=aek;have HI:=hid hiT;clear hiT;go_in;go_wp2_with fail;go_loopg[4,11] sh.length (fun gg v4 v11 wr=>∃(u:Av) (i:Nat),u=v4/\v11=.int .i64 (i:Int)/\i+gg=sh.length/\Aside ((MG (One dB 4) 1 85 w.heap.size wr u ((sh.take i).map KR)/\Below w.heap.size w wr)/\nY (sh.take i)=false));case atStart=>exact⟨_,0,rfl,rfl,oo,⟨MG.nil _ _ _ _ _,Ax⟩,rfl⟩
 case round=>
  obtain⟨u,i,rfl,rfl,hi,hA⟩:=hrel;have HC:=hid hA.o.1;have HDP:=hid hA.o.2;clear hA;have hsr:=HC.o.2.size;have hmn:((sh.take i).map KR).length=i:=by rw[List.length_map,List.length_take];omega
  by_cases hlt:i<sh.length
  .have h1:(i:Int)<(sh.length:Int):=oo;obtain⟨g,o,rfl,hL,hcap⟩:=(HS.o.below eX.fair HC.o.2 hB).here (by rintro rfl;simp at hlt);obtain⟨_,d0,_⟩:=hL.str (i:=i) hlt;have hs6:=HD.o sh[i] (List.getElem_mem hlt);have HDA:Hid (nY (sh.take (i+1)) = !decide (depth (bH sh[i])<=8)):=abr hlt HDP.o;have HDM:Hid (¬depth (bH sh[i])<=8->nY sh=true):=fun hn=>Un (List.getElem_mem hlt) hn;have HM:Hid ((sh.take (i+1)).map KR=(sh.take i).map KR++[KR sh[i]]):=by
    show _=_;rw[List.take_succ_eq_append_getElem hlt,List.map_append];rfl
   generalize sh[i]=s at *;clear hL;by_cases hd8:¬depth (bH s)<=8
   .have HDT:=hid (HDM.o hd8);have HCS:=hid (FM s wr hs6 (HL.o.below HC.o.2));go_wp2_with fail;refine HCS.o.mono ?_;rintro e w2 ⟨⟨rv,rfl,_,hnil⟩,hb2⟩;obtain rfl:=hnil hd8;rw[decide_eq_false hd8];have X2:=hid (HC.o.2.trans (hb2.mono hsr));clear hb2 hnil hd8;go_wp2_with fail;go_ret2
    exact⟨by unfold rsR;rw[if_pos HDT.o];rfl,X2.o⟩
   have hd8:=Classical.not_not.1 hd8;rw[decide_eq_true hd8]at HDA;have am1:Hid (nY (sh.take (i+1))=false):=HDA.o;clear HDA HDM;go_wp2_with fail;refine(TU s wr hs6 (HL.o.below HC.o.2) hd8).mono ?_;rintro e w2 ⟨rv,rfl,Rj,hb2⟩;obtain⟨ra,rc,rfl⟩:=Rj.form;have HRV:=hid Rj;have X2:=hid (HC.o.2.trans (hb2.mono hsr));have M2:=hid (HC.o.1.below hF.o hb2);have hs2:=X2.o.size;have hsw:=hb2.size;obtain⟨n,Hn⟩:=Nm ((rules true (bH s)).length);rw[Hn.o]at HRV;rw[Hn.o]
   have PA:∀o,Hid (One dB 4 (DZ w.heap.size (w2.alloc o) u) (w2.alloc o) (rules true (bH s)) [.slice ra n rc]):=fun o=>HC.o.1.apart hF.o (show One dB 4 (oD wr.heap.size w2) w2 (rules true (bH s)) [.slice ra n rc] from⟨_,rfl,HRV.o⟩) hsr Ab (fun g hg=>Below.heap_alloc _ _ _ hg);obtain⟨cs,hown,pX⟩:=(M2.o.alloc hF.o (.cells #[.slice ra n rc] 85));have HO:Hid ((w2.alloc (.cells #[.slice ra n rc] 85)).ownsRow w.heap.size 85 1 u i cs):=by have h:=hown;rw[hmn]at h;exact h
   have Wx:=hid pX;clear hown pX Rj hb2 d0;go_wp2_with(at_builtin;go_must(refine wpList_append_own_at _ rfl _ _ 71 rfl w.heap.size 85 iT (.slice none 0 0) 1 24 Tryz.underlying71 HI.o.1 HI.o.2.1 HI.o.2.2.1 HI.o.2.2.2 rfl oo u i cs rfl HO.o ⟨w2.heap.size,0,none⟩ 1 1 [.slice ra n rc] rfl rfl (nO _ _ _) (by simp[Value.oneCell']) As oo An ?_));intro v5 w5 hown5 hgr5 _ TV;have hlo:∀rr,u.ownBlock=some rr->w.heap.size<=rr:=fun rr hr=>(HO.o.lt rr hr).1;have hb5:Below w.heap.size w2 w5:=(Ax.alloc oo _).grown hgr5 An hlo;have yE:w5.ownsRow w.heap.size 85 1 v5 (((sh.take i).map KR).length+1) (cs++[.slice ra n rc]):=by rw[hmn];exact hown5
   have M5:Hid (MG (One dB 4) 1 85 w.heap.size w5 v5 ((sh.take i).map KR++[rules true (bH s)])):=MG.snoc hF.o Wx.o (PA _).o yE hgr5 (by simpa using TV);have X5:=hid (X2.o.trans hb5);have HE:Hid (MG (One dB 4) 1 85 w.heap.size w5 v5 ((sh.take (i+1)).map KR)/\Below w.heap.size w w5):=⟨by rw[HM.o];exact M5.o,X5.o⟩;clear hown5 yE hgr5 TV hb5 hlo M5 X5 PA;go_wp2_with fail;go_roundg(gk-1);case measure=>omega
   case rel=>exact⟨v5,i+1,rfl,by congr 1,oo,HE.o,am1.o⟩
  .have h1:(sh.length:Int)<=(i:Int):=oo;have HE:Hid (SG (One dB 4) 1 (oD w.heap.size wr) wr u (sh.map KR)):=by
    have h:=HC.o.1.sl hF.o (One.sized dB 4) oo;rw[List.take_of_length_le (show sh.length<=i by omega)]at h;exact h
   have HDE:Hid (nY sh=false):=by have q:=HDP.o;rwa[List.take_of_length_le (show sh.length<=i by omega)]at q
   go_wp2_with fail;go_ret2
   exact⟨by unfold rsR;rw[if_neg (by rw[HDE.o];simp)];exact⟨_,rfl,HE.o⟩,HC.o.2⟩
def sK:wV Nat:=fun _ _ n cs=>cs=[.int .i64 (n:Int)]
theorem sK.fair:Fair sK:=fun _ _ _ _ _ _ _ _ h=>h
theorem sK.sized:ug sK 1:=by rintro S w x cs rfl;rfl
theorem LG.nat{S:Nat->Prop}{w:WD}{l:List Nat}{g o i:Nat}(h:LG sK 1 S w l g o)(hi:i<l.length):S g/\w.cell? ⟨g,o+i,none⟩=some (.int .i64 (l[i]:Int)):=by obtain⟨h0,cs,rfl,hc⟩:=h.at l g o i hi;have:=hc 0 _ rfl;rw[Nat.mul_one,Nat.add_zero]at this;exact⟨h0,this⟩
theorem aeA:∃i,prog.info? 3=some i/\i.zero=some (.int .i64 0)/\i.size=1/\i.bytes=8:=info_parts Ao
theorem MG.ahs{base:Nat}{w w':WD}{v v2:Av}{l:List Nat}{cs:List Av}(n:Nat)(h:jC sK (DZ base w v) w l cs)(hown:w'.ownsRow base 3 1 v2 (l.length+1) (cs++[.int .i64 (n:Int)]))(hg:w.grownBy w' v.ownBlock)(hat:v2.ownBlock=v.ownBlock\/v2.ownBlock=some w.heap.size):MG sK 1 3 base w' v2 (l++[n]):=MG.snoc sK.fair h rfl hown hg hat
def wR(p:aI)(s:Nat)(e:Nat):Bool:=match (Sp.ahead p e).getLast? with|none=>false|some k=>s.testBit k
def EP(s:Nat):List Nat->Nat
 |[]=>s
 |j::r=>EP (Gg s (2 ^ j)) r
theorem Zn(s:Nat)(hs:s<18446744073709551616):∀l,EP s l<18446744073709551616
 |[]=>hs
 |_::r=>Zn _ (GI _ _) r
theorem FQ(s:Nat):∀(l r:List Nat),EP s (l++r)=EP (EP s l) r
 |[],_=>rfl
 |j::l,r=>FQ (Gg s (2 ^ j)) l r
theorem Zo(n:Nat)(hn:n<=30):2 ^ n-1<18446744073709551616:=by have:=wB n hn;omega
def zI(p:aI):Nat->Nat
 |0=>2 ^ p.length-1
 |k+1=>EP (zI p k) (Sp.ahead p k)
theorem Zp(p:aI)(hn:p.length<=30):∀k,zI p k<18446744073709551616
 |0=>Zo _ hn
 |k+1=>Zn _ (Zp p hn k) _
def ER(p:aI):Nat->Nat
 |0=>2 ^ p.length-1
 |k+1=>Gg (ER p k) (2 ^ (parentOf p (k+1)).toNat)
theorem aht(p:aI)(hn:p.length<=30):∀k,ER p k<18446744073709551616
 |0=>Zo _ hn
 |_+1=>GI _ _
theorem GL(B:Nat)(p:aI)(e:Nat)(a:Option Addr)(cap:Nat)(w:WD)(h:jZ B w p a cap)(he:e<p.length):
  Calls prog 262 #[.agg #[.slice a p.length cap],.int .i64 (e:Int)] w fun en w'=>∃v',en=.returned v'/\SG sK 1 (oD w.heap.size w') w' v' (Sp.ahead p e)/\Below w.heap.size w w':=by
 have B0:Hid (Below w.heap.size w (w.alloc (.cells #[.slice a p.length cap] 66))):=Ax.alloc nl _;have V0:Hid (bU (w.alloc (.cells #[.slice a p.length cap] 66)) w.heap.size (.slice a p.length cap) 66):=bU.new _ _ _;have hlen:=h.len;have hBw:=h.lt;have wX:Hid (jZ B (w.alloc (.cells #[.slice a p.length cap] 66)) p a cap):=h.alloc _;obtain⟨pe,Hpe⟩:=Nm (parentOf p e);have HV:Hid (Sp.ahead p e=gJ p pe e):=by show _=_;unfold Sp.ahead;rw[Hpe.o]
 clear h;have h1:(e:Int)<(p.length:Int):=oo;obtain⟨iT,hiT⟩:=aeA;have HI:=hid hiT;clear hiT;go_in;go_wp2_with fail;have hsz0:=B0.o.size;have hlt0:=V0.o.lt;generalize w.alloc (.cells #[.slice a p.length cap] 66)=w0 at *;generalize hpb:w.heap.size=pb at *;go_loopg[5,8] e (fun gg v5 v6 wr=>∃(u:Av) (i:Nat),u=v5/\i+gg=e/\v6=.int .i64 (i:Int)/\Aside (MG sK 1 3 w0.heap.size wr u (gJ p pe i)/\Below w0.heap.size w0 wr));case atStart=>exact⟨_,0,rfl,oo,rfl,MG.nil _ _ _ _ _,Ax⟩
 case round=>
  obtain⟨u,i,rfl,hi,rfl,hA⟩:=hrel;have M1:=hid hA.o.1;have B1:=hid hA.o.2;clear hA;have hal:=AB p pe i;by_cases hlt:i<e
  .have h3:(i:Int)<(e:Int):=oo;have h4:(i:Int)<(p.length:Int):=oo;have HPr:=wX.o.below B1.o wX.o.lt;obtain⟨g,o,rfl,hgB,hcap,hcs⟩:=HPr.at;have d0:=hcs i oo;have d1:=hcs e he;rw[Hpe.o]at d1;have cv:=(V0.o.below B1.o hlt0).c;obtain⟨pi,Hpi⟩:=Nm (parentOf p i);rw[Hpi.o]at d0;clear hcs HPr;have hsz:=B1.o.size;by_cases heq:pi=pe
   .have hb:(pi==pe)=true:=by simpa using heq
    have HT:Hid (gJ p pe (i+1)=gJ p pe i++[i]):=by show _=_;rw[Fv,Hpi.o,if_pos heq]
    clear heq;go_wp2_with fail;go_quiet (fail)
    obtain⟨wd,hwd⟩:∃wd,wd=wr.drewN nq:=⟨_,rfl⟩;have M2:Hid (MG sK 1 3 w0.heap.size wd u (gJ p pe i)):=by rw[hwd];exact M1.o.keep sK.fair nl fun _ _ _=>rfl
    have B2:Hid (Below w0.heap.size w0 wd):=by rw[hwd];exact⟨B1.o.os,B1.o.tape,B1.o.output,B1.o.size,B1.o.block⟩
    rw[<-hwd];have hsz2:=B2.o.size;clear M1 B1 d0 d1 hwd cv;obtain⟨cs,hown,pX⟩:=(M2.o.alloc sK.fair (.cells #[.int .i64 (i:Int)] 3));have HO:=hid hown;have HC:=hid pX;clear hown pX;go_wp2_with(at_builtin;go_must(refine wpList_append_own_at _ rfl _ _ 31 rfl w0.heap.size 3 iT (.int .i64 0) 1 8 Tryz.underlying31 HI.o.1 HI.o.2.1 HI.o.2.2.1 HI.o.2.2.2 rfl oo u (gJ p pe i).length cs rfl HO.o ⟨wd.heap.size,0,none⟩ 1 1 [.int .i64 (i:Int)] rfl rfl (cell_one_new _ _ _) (by simp[Value.oneCell']) As oo An ?_));intro v4 w4 hown4 dS _ oh
    have M4:Hid (MG sK 1 3 w0.heap.size w4 v4 (gJ p pe i++[i])):=MG.ahs i HC.o hown4 dS (by simpa using oh);have B4:Hid (Below w0.heap.size w0 w4):=(B2.o.alloc oo _).grown dS An (fun rr hr=>(HO.o.lt rr hr).1);clear hown4 dS oh;go_wp2_with fail;go_roundg(gk-1);case measure=>omega
    case rel=>exact⟨v4,i+1,rfl,oo,by congr 1,by rw[HT.o];exact M4.o,B4.o⟩
   .have hb:(pi==pe)=false:=by simpa using heq
    have HT:Hid (gJ p pe (i+1)=gJ p pe i):=by show _=_;rw[Fv,Hpi.o,if_neg heq]
    clear heq;go_wp2_with fail;go_quiet (fail)
    go_wp2_with fail;go_roundg(gk-1);case measure=>omega
    case rel=>exact⟨u,i+1,rfl,oo,by congr 1,by rw[HT.o];exact M1.o.keep sK.fair nl fun _ _ _=>rfl,⟨B1.o.os,B1.o.tape,B1.o.output,B1.o.size,B1.o.block⟩⟩
  .have h3:(e:Int)<=(i:Int):=oo;have HT:Hid (Sp.ahead p e=gJ p pe i):=by show _=_;rw[HV.o,show i=e from by omega]
   go_wp2_with fail;go_ret;exact⟨_,rfl,by rw[HT.o];exact(M1.o.sl sK.fair sK.sized oo).keep sK.fair (fun g hg=>⟨by have:=hg.1;omega,hg.2⟩) (fun _ _=>rfl),by rw[hpb];exact B0.o.trans (B1.o.mono hsz0)⟩
theorem Ku{B:Nat}{w w':WD}(h:Below B w w')(k:Nat):Below B w (w'.drewN k):=⟨h.os,h.tape,h.output,h.size,h.block⟩
theorem Uo(B:Nat)(p:aI)(a:Option Addr)(cap s sb pb i:Nat)(w:WD)(h:jZ B w p a cap)(hi:i<p.length)(hs:s<18446744073709551616)
  (hsb:bU w sb (.int .u64 (s:Int)) 102) (hpb:bU w pb (.slice a p.length cap) 66):
  Calls prog 260 #[.int .i64 (i:Int),.pointer (some ⟨sb,0,none⟩),.pointer (some ⟨pb,0,none⟩)] w fun ex w'=>ex=.returned (.bool (hasB s (parentOf p i)))/\Below w.heap.size w w':=by
 obtain⟨g,o,rfl,hgB,hcap,hcs⟩:=h.at;have c0:=hcs i hi;have hq:=h.lo hi;have hlen:=h.len;have c1:=hsb.c;have c2:=hpb.c;have h1:(i:Int)<(p.length:Int):=oo;generalize parentOf p i=q at *;clear hcs h hsb hpb;go_in;go_wp2_with fail;go_quiet ((go_at_call 47;exact Calls.quiet_of_same (EN s q _ hs oo)))
 go_wp2_with fail;go_ret;exact⟨rfl,Ku Ax _⟩
theorem abu{p:aI}{s e:Nat}(h:Sp.ahead p e=[]):wR p s e=false:=by unfold wR;rw[h];rfl
theorem aeB{p:aI}{s e:Nat}(h:0<(Sp.ahead p e).length):wR p s e=hasB s (((Sp.ahead p e)[(Sp.ahead p e).length-1]'oo:Nat):Int):=by unfold wR;rw[List.getLast?_eq_getElem?,List.getElem?_eq_getElem oo,JO]
theorem ahu(B:Nat)(p:aI)(a:Option Addr)(cap s sb pb i:Nat)(w:WD)(h:jZ B w p a cap)(hi:i<p.length)(hs:s<18446744073709551616)
  (hsb:bU w sb (.int .u64 (s:Int)) 102) (hpb:bU w pb (.slice a p.length cap) 66):
  Calls prog 261 #[.int .i64 (i:Int),.pointer (some ⟨pb,0,none⟩),.pointer (some ⟨sb,0,none⟩)] w fun ex w'=>ex=.returned (.bool (wR p s i))/\Below w.heap.size w w':=by
 have hlen:=h.len;have c2:=hpb.c;have HH:=hid h;have HB1:=hid hsb;have hsl:=hsb.lt;have HA:Hid (∀x∈Sp.ahead p i,x<i):=fun x hx=>uh p (parentOf p i) i x hx;clear h hsb hpb;go_in;go_wp2_with fail;refine(GL B p i a cap w HH.o hi).mono ?_;rintro e w1 ⟨v',rfl,hsg,hb1⟩;obtain⟨va,vc,rfl⟩:=hsg.form;have B1:=hid hb1;have c1:=(HB1.o.below hb1 hsl).c;have hll:=hsg.len;by_cases hz:Sp.ahead p i=[]
 .have HV:Hid (wR p s i=false):=abu hz;have h0:((Sp.ahead p i).length:Int)=0:=by rw[hz];rfl
  have h0':¬(0:Int)<((Sp.ahead p i).length:Int):=oo;clear hsg hb1 hz;generalize(Sp.ahead p i).length=m at *;have hd:decide ((0:Int)<(m:Int))=false:=decide_eq_false h0';go_wp2_with fail;go_quiet (fail)
  go_wp2_with fail;go_ret;exact⟨aC HV.o.symm,Ku B1.o _⟩
 .obtain⟨g,o,rfl,hL,hcap⟩:=hsg.here hz;have hp:0<(Sp.ahead p i).length:=List.length_pos_iff.2 hz;have c3:=(hL.nat (i:=(Sp.ahead p i).length-1) oo).2;have HV:Hid (wR p s i=hasB s (((Sp.ahead p i)[(Sp.ahead p i).length-1]'oo:Nat):Int)):=aeB hp;have hk:=HA.o ((Sp.ahead p i)[(Sp.ahead p i).length-1]'oo) (List.getElem_mem _);generalize(Sp.ahead p i)[(Sp.ahead p i).length-1]'oo=k at *;have h0':(0:Int)<((Sp.ahead p i).length:Int):=oo;clear hsg hb1 hz hL HA;generalize(Sp.ahead p i).length=m at *;have hm1:((m:Int)-1)=((m-1:Nat):Int):=oo;have hw1:IntKind.i64.wrap ((m:Int)-1)=((m-1:Nat):Int):=by rw[IntKind.wrap_i64];omega
  have hm2:((m-1:Nat):Int)<(m:Int):=oo;go_wp2_with fail;go_quiet ((go_at_call 47;exact Calls.quiet_of_same (EN s (k:Int) _ hs oo)))
  go_wp2_with fail;go_ret;exact⟨aC HV.o.symm,Ku B1.o _⟩
theorem aeC{l:List Nat}{f:Nat->Bool}{j:Nat}(h:j<l.length):(l.drop j).any f=(f l[j]||(l.drop (j+1)).any f):=by rw[List.drop_eq_getElem_cons h];rfl
theorem abv(B:Nat)(p:aI)(a:Option Addr)(cap s sb pb i:Nat)(w:WD)(h:jZ B w p a cap)(hi:i<p.length)(hs:s<18446744073709551616)
  (hsb:bU w sb (.int .u64 (s:Int)) 102) (hpb:bU w pb (.slice a p.length cap) 66):
  Calls prog 263 #[.int .i64 (i:Int),.pointer (some ⟨pb,0,none⟩),.pointer (some ⟨sb,0,none⟩)] w fun ex w'=>ex=.returned (.bool ((Sp.ahead p i).any fun j=>s.testBit j))/\Below w.heap.size w w':=by
 have hlen:=h.len;have c2:=hpb.c;have HH:=hid h;have HB1:=hid hsb;have hsl:=hsb.lt;have HA:Hid (∀x∈Sp.ahead p i,x<i):=fun x hx=>uh p (parentOf p i) i x hx;clear h hsb hpb;go_in;go_wp2_with fail;refine(GL B p i a cap w HH.o hi).mono ?_;rintro e w1 ⟨v',rfl,hsg,hb1⟩;obtain⟨va,vc,rfl⟩:=hsg.form;have B1:=hid hb1;have HS:=hid hsg;have c1:=(HB1.o.below hb1 hsl).c;have hll:=hsg.len;clear hsg hb1 c2;obtain⟨l,Hl⟩:=Nm (Sp.ahead p i);rw[Hl.o]at HS HA hll;rw[Hl.o];go_wp2_with fail;go_loopg[11] l.length (fun gg v7 wr=>∃j:Nat,j+gg=l.length/\v7=.int .i64 (j:Int)/\wr=w1/\Aside (l.any (fun j=>s.testBit j)=(l.drop j).any (fun j=>s.testBit j)))
 case atStart=>exact⟨0,oo,rfl,rfl,rfl⟩
 case round=>
  obtain⟨go,hgo⟩:∃go,go=gk:=⟨_,rfl⟩;obtain⟨j,hj,rfl,rfl,hA⟩:=hrel;have HE:Hid (l.any (fun j=>s.testBit j)=(l.drop j).any (fun j=>s.testBit j)):=hA.o;clear hA;by_cases hlt:j<l.length
  .have h3:(j:Int)<(l.length:Int):=oo;obtain⟨g,o,rfl,hL,hcap⟩:=HS.o.here (by rintro rfl;simp at hlt);have c3:=(hL.nat (i:=j) hlt).2;have hk:=HA.o l[j] (List.getElem_mem _);have HE2:Hid (l.any (fun j=>s.testBit j)=(hasB s ((l[j]:Nat):Int)||(l.drop (j+1)).any (fun j=>s.testBit j))):=by
    show _=_;rw[HE.o,aeC hlt,JO]
   generalize l[j]=k at *;clear hL HE;go_wp2_with fail;refine(EN s (k:Int) _ hs oo).mono ?_;obtain⟨b,Hb⟩:=Nm (hasB s (k:Int));rw[Hb.o];rintro e wq ⟨rfl,hwq⟩;rw[hwq];clear hwq;rw[Hb.o]at HE2;cases b
   .go_wp2_with fail;go_roundg(go-1);case measure=>omega
    case rel=>exact⟨j+1,oo,by congr 1,rfl,HE2.o⟩
   .have HV:Hid (l.any (fun j=>s.testBit j)=true):=HE2.o;go_wp2_with fail;go_ret;exact⟨aC (by rw[Hl.o];exact HV.o.symm),B1.o⟩
  .have h3:(l.length:Int)<=(j:Int):=oo;have HV:Hid (l.any (fun j=>s.testBit j)=false):=by
    show _=_;rw[HE.o,List.drop_of_length_le oo];rfl
   go_wp2_with fail;go_ret;exact⟨aC (by rw[Hl.o];exact HV.o.symm),B1.o⟩
theorem XL(B:Nat)(p:aI)(a:Option Addr)(cap s:Nat)(w:WD)(h:jZ B w p a cap)(hs:s<18446744073709551616):
  Calls prog 200 #[.agg #[.slice a p.length cap],.int .u64 (s:Int)] w fun ex w'=>ex=.returned (.int .u64 (jq (fun i=>hasB s (parentOf p i)) p.length:Int))/\Below w.heap.size w w':=by
 have hmf:=nI;have hlen:=h.len;have hBw:=h.lt;obtain⟨V1,V2,hb⟩:=iR w (.slice a p.length cap) 66 (.int .u64 (s:Int)) 102;have P2:=hid (h.below hb hBw);have c1:=V1.c;have c2:=V2.c;have H1:=hid V1;have H2:=hid V2;have B2:=hid hb;clear V1 V2 hb h;go_in;go_wp2_with fail
 generalize(w.alloc (.cells #[.slice a p.length cap] 66)).alloc (.cells #[.int .u64 (s:Int)] 102)=w2 at *;refine(rZ p.length a cap _ _ (fun i=>hasB s (parentOf p i)) w2 hlen.2 (fun _ _=>rfl) ?_).mono ?_
 .intro i hi w' hb';exact Uo B p a cap s _ _ i w' (P2.o.below hb' P2.o.lt) hi hs (H2.o.below hb' H2.o.lt) (H1.o.below hb' H1.o.lt)
 .rintro e wq ⟨rfl,hwq⟩;have B3:=hid (AC B2.o hwq);clear hwq;go_wp2_with fail;go_ret;exact⟨rfl,B3.o⟩
theorem aj8(B:Nat)(p:aI)(a:Option Addr)(cap s:Nat)(w:WD)(h:jZ B w p a cap)(hs:s<18446744073709551616):
  Calls prog 201 #[.agg #[.slice a p.length cap],.int .u64 (s:Int)] w fun ex w'=>ex=.returned (.int .u64 (jq (fun i=>wR p s i) p.length:Int))/\Below w.heap.size w w':=by
 have hmf:=nI;have hlen:=h.len;have hBw:=h.lt;obtain⟨V1,V2,hb⟩:=iR w (.slice a p.length cap) 66 (.int .u64 (s:Int)) 102;have P2:=hid (h.below hb hBw);have c1:=V1.c;have c2:=V2.c;have H1:=hid V1;have H2:=hid V2;have B2:=hid hb;clear V1 V2 hb h;go_in;go_wp2_with fail
 generalize(w.alloc (.cells #[.slice a p.length cap] 66)).alloc (.cells #[.int .u64 (s:Int)] 102)=w2 at *;refine(rZ p.length a cap _ _ (fun i=>wR p s i) w2 hlen.2 (fun _ _=>rfl) ?_).mono ?_
 .intro i hi w' hb';exact ahu B p a cap s _ _ i w' (P2.o.below hb' P2.o.lt) hi hs (H2.o.below hb' H2.o.lt) (H1.o.below hb' H1.o.lt)
 .rintro e wq ⟨rfl,hwq⟩;have B3:=hid (AC B2.o hwq);clear hwq;go_wp2_with fail;go_ret;exact⟨rfl,B3.o⟩
theorem aeD(B:Nat)(p:aI)(a:Option Addr)(cap s:Nat)(w:WD)(h:jZ B w p a cap)(hs:s<18446744073709551616):
  Calls prog 202 #[.agg #[.slice a p.length cap],.int .u64 (s:Int)] w fun ex w'=>ex=.returned (.int .u64 (jq (fun i=>(Sp.ahead p i).any fun j=>s.testBit j) p.length:Int))/\Below w.heap.size w w':=by
 have hmf:=nI;have hlen:=h.len;have hBw:=h.lt;obtain⟨V1,V2,hb⟩:=iR w (.slice a p.length cap) 66 (.int .u64 (s:Int)) 102;have P2:=hid (h.below hb hBw);have c1:=V1.c;have c2:=V2.c;have H1:=hid V1;have H2:=hid V2;have B2:=hid hb;clear V1 V2 hb h;go_in;go_wp2_with fail
 generalize(w.alloc (.cells #[.slice a p.length cap] 66)).alloc (.cells #[.int .u64 (s:Int)] 102)=w2 at *;refine(rZ p.length a cap _ _ (fun i=>(Sp.ahead p i).any fun j=>s.testBit j) w2 hlen.2 (fun _ _=>rfl) ?_).mono ?_
 .intro i hi w' hb';exact abv B p a cap s _ _ i w' (P2.o.below hb' P2.o.lt) hi hs (H2.o.below hb' H2.o.lt) (H1.o.below hb' H1.o.lt)
 .rintro e wq ⟨rfl,hwq⟩;have B3:=hid (AC B2.o hwq);clear hwq;go_wp2_with fail;go_ret;exact⟨rfl,B3.o⟩
theorem Ur(x k:Nat)(hk:k<=30):bits .andNot .u64 (x:Int) (IntKind.u64.wrap (2 ^ k))=(Gg x (2 ^ k):Int):=by rw[Px k hk,TN]
theorem abw(s:Nat)(l:List Nat)(j:Nat)(h:j<l.length):EP s (l.take (j+1))=Gg (EP s (l.take j)) (2 ^ l[j]):=by rw[List.take_succ_eq_append_getElem h,FQ];rfl
theorem aj9(B:Nat)(p:aI)(a:Option Addr)(cap:Nat)(w:WD)(h:jZ B w p a cap):
  Calls prog 362 #[.agg #[.slice a p.length cap]] w fun ex w'=>ex=.returned (.int .u64 (zI p p.length:Int))/\Below w.heap.size w w':=by
 have B0:Hid (Below w.heap.size w (w.alloc (.cells #[.slice a p.length cap] 66))):=Ax.alloc nl _;have V0:Hid (bU (w.alloc (.cells #[.slice a p.length cap] 66)) w.heap.size (.slice a p.length cap) 66):=bU.new _ _ _;have hlen:=h.len;have wX:Hid (jZ B (w.alloc (.cells #[.slice a p.length cap] 66)) p a cap):=h.alloc _;have c00:=V0.o.c;clear h;go_in;go_wp2_with fail;have hsz0:=B0.o.size;have hlt0:=V0.o.lt;generalize w.alloc (.cells #[.slice a p.length cap] 66)=w0 at *;generalize hpb:w.heap.size=pb at *;refine pmb (TP p.length a cap _ hlen.2) fun w1 hw1=>?_;have B1:=hid hw1;have c0:=(V0.o.below hw1 hlt0).c;clear hw1;go_wp2_with fail;go_loopg[3,12] p.length (fun g v5 v wr=>∃k:Nat,k+g=p.length/\v=.int .i64 (k:Int)/\v5=.int .u64 (zI p k:Int)/\Aside (Below w0.heap.size w0 wr))
 case atStart=>exact⟨0,oo,rfl,rfl,B1.o⟩
 case round=>
  obtain⟨go,hgo⟩:∃go,go=gk:=⟨_,rfl⟩;obtain⟨k,hk,rfl,rfl,hA⟩:=hrel;have BR:Hid (Below w0.heap.size w0 wr):=hA.o;have cr:=(V0.o.below BR.o hlt0).c;have akb:=BR.o.size;clear hA c0;by_cases hlt:k<p.length
  .have h1:(k:Int)<(p.length:Int):=oo;go_wp2_with fail;refine(GL B p k a cap wr (wX.o.below BR.o wX.o.lt) hlt).mono ?_;rintro e w2 ⟨v',rfl,hsg,hb2⟩;obtain⟨va,vc,rfl⟩:=hsg.form;have B2:=hid (BR.o.trans (hb2.mono akb));have HS:=hid hsg;have HL:Hid (zI p (k+1)=EP (zI p k) (Sp.ahead p k)):=rfl;have HA:Hid (∀x∈Sp.ahead p k,x<k):=fun x hx=>uh p (parentOf p k) k x hx;have hll:=hsg.len;clear hsg hb2 cr;generalize Sp.ahead p k=l at *;go_wp2_with fail;go_loopg[3,19] l.length (fun g v5 v wq=>∃j:Nat,j+g=l.length/\v=.int .i64 (j:Int)/\v5=.int .u64 (EP (zI p k) (l.take j):Int)/\wq=w2);case atStart=>exact⟨0,oo,rfl,rfl,rfl⟩
   case round=>
    obtain⟨gi,hgi⟩:∃gi,gi=gk:=⟨_,rfl⟩;obtain⟨j,hj,rfl,rfl,rfl⟩:=hrel;by_cases hlj:j<l.length
    .have h3:(j:Int)<(l.length:Int):=oo;obtain⟨g,o,rfl,hL,hcap⟩:=HS.o.here (by rintro rfl;simp at hlj);have c3:=(hL.nat (i:=j) hlj).2;have hk2:=HA.o l[j] (List.getElem_mem _);have HT:=abw (zI p k) l j hlj;generalize l[j]=m at *;have HO:Hid (bits .andNot .u64 (EP (zI p k) (l.take j):Int) (IntKind.u64.wrap (2 ^ m))=(EP (zI p k) (l.take (j+1)):Int)):=by show _=_;rw[HT,Ur _ _ oo]
     have h30:(m:Int)<30:=oo;clear HT hL;go_wp2_with fail;go_roundg(gi-1);case measure=>omega
     case rel=>exact⟨j+1,oo,by congr 1,by rw[HO.o],rfl⟩
    .have h3:(l.length:Int)<=(j:Int):=oo;have HV:Hid (EP (zI p k) (l.take j)=zI p (k+1)):=by show _=_;rw[HL.o,List.take_of_length_le oo]
     go_wp2_with fail;go_roundg(go-1);case measure=>omega
     case rel=>exact⟨k+1,oo,by congr 1,by rw[HV.o],B2.o⟩
  .have h1:(p.length:Int)<=(k:Int):=oo;have HV:Hid (zI p k=zI p p.length):=by show _=_;rw[show k=p.length by omega]
   go_wp2_with fail;go_ret;rw[HV.o];exact⟨rfl,by rw[hpb];exact B0.o.trans (BR.o.mono hsz0)⟩
theorem aeE:∃i,prog.info? 35=some i/\i.zero=some (.agg #[.int .i64 0,.string ⟨#[]⟩,.string ⟨#[]⟩,.slice none 0 0,.slice none 0 0])/\i.size=5/\i.bytes=88:=info_parts Ao
theorem abx(g o n cap:Nat)(h1:1<=n)(h2:n<=cap)(h3:n<=30):∃a',(∀W:WD,(Instr.slice 22 (.slice (some ⟨g,o,none⟩) n cap) (some (.int .i64 1)) none none).run prog W=.ok (.slice a' (n-1) (cap-1)) W)/\(1<n->a'=some ⟨g,o+5,none⟩):=by
 obtain⟨iT,i1,_,i3,_⟩:=aeE;refine⟨if cap=1 then some ⟨g,o,none⟩ else some ⟨g,o+5,none⟩,fun W=>?_,fun h=>?_⟩
 .rw[run_slice_l (P:=prog) W 22 _ n cap Tryz.underlying22 .i64 1 oo oo];have e:prog.elem 22=35:=by kernel_rfl
  simp[sizeOf,typeInfo,e,i1,i3,sliced,Result.andThen,Addr.add]
 .rw[if_neg oo]
theorem aeF(p:aI)(k:Nat){q:Int}(hq:parentOf p (k+1)=q)(h:0<=q)(h2:q<30):bits .andNot .u64 (ER p k:Int) (IntKind.u64.wrap (2 ^ q.toNat))=(ER p (k+1):Int):=by
 rw[Ur _ _ oo];conv=>rhs;unfold ER
 rw[hq]
theorem ahv(B:Nat)(p:aI)(a:Option Addr)(cap:Nat)(w:WD)(h:jZ B w p a cap):
  Calls prog 363 #[.agg #[.slice a p.length cap]] w fun ex w'=>ex=.returned (.int .u64 (ER p (p.length-1):Int))/\Below w.heap.size w w':=by
 have B0:Hid (Below w.heap.size w (w.alloc (.cells #[.slice a p.length cap] 66))):=Ax.alloc nl _;have V0:Hid (bU (w.alloc (.cells #[.slice a p.length cap] 66)) w.heap.size (.slice a p.length cap) 66):=bU.new _ _ _;have hlen:=h.len;have wX:Hid (jZ B (w.alloc (.cells #[.slice a p.length cap] 66)) p a cap):=h.alloc _;have c00:=V0.o.c;clear h;go_in;go_wp2_with fail;have hsz0:=B0.o.size;have hlt0:=V0.o.lt;generalize w.alloc (.cells #[.slice a p.length cap] 66)=w0 at *;generalize hpb:w.heap.size=pb at *;refine pmb (TP p.length a cap _ hlen.2) fun w1 hw1=>?_;have B1:=hid hw1;have c0:=(V0.o.below hw1 hlt0).c;obtain⟨g,o,rfl,hgB,hcap,hcs⟩:=wX.o.at;obtain⟨a',hcut,ha'⟩:=abx g o p.length cap hlen.1 hcap hlen.2;clear hw1 hcs;have hn1:((p.length-1:Nat):Int)=(p.length:Int)-1:=oo;go_wp2_with fail
 go_loopg[3,12] (p.length-1) (fun g v5 v wr=>∃k:Nat,k+g=p.length-1/\v=.int .i64 (k:Int)/\v5=.int .u64 (ER p k:Int)/\Aside (Below w0.heap.size w0 wr));case atStart=>exact⟨0,oo,rfl,rfl,B1.o⟩
 case round=>
  obtain⟨go,hgo⟩:∃go,go=gk:=⟨_,rfl⟩;obtain⟨k,hk,rfl,rfl,hA⟩:=hrel;have BR:Hid (Below w0.heap.size w0 wr):=hA.o;have akb:=BR.o.size;clear hA c0;by_cases hlt:k<p.length-1
  .have h1:(k:Int)<((p.length-1:Nat):Int):=oo;have hP:=wX.o.below BR.o wX.o.lt;obtain⟨g',o',he,hL,_⟩:=hP.sg.here (by rintro rfl;simp at hlt);cases he;obtain rfl:=ha' oo;obtain⟨cv,av,hX⟩:=hL.el (i:=k+1) oo;have Hq:Hid (parentOf p (k+1)=(p[k+1]'oo).parent):=ng oo;have hq:=hP.lo (i:=k+1) oo;have hroot:=hP.par.root (k+1) oo;rw[Hq.o]at hq hroot;generalize(p[k+1]'oo)=x at *;have hq0:0<=x.parent:=by
    rcases Int.lt_or_le x.parent 0 with hh|hh
    .have:=hroot hh;omega
    .exact hh
   have am2:x.parent<30:=oo;obtain⟨ca,cc,rfl⟩:=hX.cl.form;obtain⟨aa,ac,rfl⟩:=hX.at_.form;have eo:o+5+k*5=o+(k+1)*5:=oo;have d0:wr.cell? ⟨g,o+5+k*5,none⟩=some (.int .i64 x.parent):=by rw[eo];exact hX.c0
   have d1:wr.cell? ⟨g,o+5+k*5+1,none⟩=some (.string x.tag):=by rw[eo];exact hX.c1
   have d2:wr.cell? ⟨g,o+5+k*5+2,none⟩=some (.string x.id):=by rw[eo];exact hX.c2
   have d3:wr.cell? ⟨g,o+5+k*5+3,none⟩=some (.slice ca x.classes.length cc):=by rw[eo];exact hX.c3
   have d4:wr.cell? ⟨g,o+5+k*5+4,none⟩=some (.slice aa x.attrs.length ac):=by rw[eo];exact hX.c4
   have HV:Hid (bits .andNot .u64 (ER p k:Int) (IntKind.u64.wrap (2 ^ x.parent.toNat))=(ER p (k+1):Int)):=aeF p k Hq.o hq0 am2;have X2:Hid (XE (wr.alloc (.cells #[.int .i64 x.parent,.string x.tag,.string x.id,.slice ca x.classes.length cc,.slice aa x.attrs.length ac] 35)) wr.heap.size x (.slice ca x.classes.length cc) (.slice aa x.attrs.length ac)):=heap_alloc_new wr _;have B2:Hid (Below w0.heap.size w0 (wr.alloc (.cells #[.int .i64 x.parent,.string x.tag,.string x.id,.slice ca x.classes.length cc,.slice aa x.attrs.length ac] 35))):=BR.o.alloc akb _;clear hX hL hP hroot hq eo;go_upto_region 5 with fail
   generalize wr.alloc (.cells #[.int .i64 x.parent,.string x.tag,.string x.id,.slice ca x.classes.length cc,.slice aa x.attrs.length ac] 35)=w2 at *;generalize wr.heap.size=xb at *;clear d0 d1 d2 d3 d4;obtain⟨d0,d1,d2,d3,d4⟩:=X2.o.cs;go_wp2_with fail;go_roundg(go-1);case measure=>omega
   case rel=>exact⟨k+1,oo,by congr 1,by rw[HV.o],B2.o⟩
  .have h1:((p.length-1:Nat):Int)<=(k:Int):=oo;have HV:Hid (ER p k=ER p (p.length-1)):=by show _=_;rw[show k=p.length-1 by omega]
   go_wp2_with fail;go_ret;rw[HV.o];exact⟨rfl,by rw[hpb];exact B0.o.trans (BR.o.mono hsz0)⟩
theorem wS{w w':WD}{a:Addr}{v:Av}(h:w.cell? a=some v)(hb:Below w.heap.size w w'):w'.cell? a=some v:=(World.cell?_of_block (hb.block _ (World.block_lt_of_cell? w a h))).trans h
theorem alT(B:Nat)(p:aI)(a:Option Addr)(cap fb pb i:Nat)(g:Nat)(cs:Array Av)(t:Nat->Bool)(w:WD)(h:jZ B w p a cap)(hi:i<p.length)
  (hfb:bU w fb (.func (.func g) #[] cs) 69) (hpb:bU w pb (.slice a p.length cap) 66)
  (hg:∀(args:Array Av) (w:WD),(callFunc g args).run prog w=.ok (.enter g args) w)
  (hf:∀k,1<=k->k<=31->∀w',Below w.heap.size w w'->Calls prog g (#[.int .i64 (k:Int)]++cs) w' fun ex w''=>ex=.returned (.bool (t k))/\Below w'.heap.size w' w''):
  Calls prog 364 #[.int .i64 (i:Int),.pointer (some ⟨fb,0,none⟩),.pointer (some ⟨pb,0,none⟩)] w fun ex w'=>ex=.returned (.bool (t (qo p i)))/\Below w.heap.size w w':=by
 have hlen:=h.len;have d1:=hfb.c;have d2:=hpb.c;have HH:=hid h;have HF:=hid hf;have hal:(Sp.ahead p i).length<=i:=AB p (parentOf p i) i;have HP:Hid (qo p i=(Sp.ahead p i).length+1):=rfl;clear h hf hfb hpb;go_in;go_wp2_with fail;refine wp_region_any Ao ?_;change wpAny _ _ _ _ _ _ _ (World.drew _);obtain⟨wz,hwz⟩:∃x,World.drew w=x:=⟨_,rfl⟩;have hz:Below w.heap.size w wz:=by rw[<-hwz];exact Ax.drew
 rw[hwz];have BZ:=hid hz;have SZ:Hid (wz.cell? ⟨fb,0,none⟩=some (.func (.func g) #[] cs)/\wz.cell? ⟨pb,0,none⟩=some (.slice a p.length cap)):=⟨wS d1 hz,wS d2 hz⟩;have hsz:=hz.size;clear hz hwz d1 d2;refine wpAny_of_held (S:=fun wx=>wx.cell? ⟨fb,0,none⟩=some (.func (.func g) #[] cs)/\wx.cell? ⟨pb,0,none⟩=some (.slice a p.length cap)) _ _ _ _ ?_;refine dH 0 rfl SZ.o (by intro w hSw;obtain⟨z1,z2⟩:=hSw;exact gs) ?_;refine dH 1 rfl SZ.o (by intro w hSw;obtain⟨z1,z2⟩:=hSw;exact gs) ?_;refine dH 2 rfl SZ.o (by intro w hSw;obtain⟨z1,z2⟩:=hSw;exact gs) ?_;refine iW 3 fun K hK=>?_;go_simp;refine(GL B p i a cap wz (HH.o.below BZ.o HH.o.lt) hi).mono ?_;rintro e w1 ⟨v',rfl,hsg,hb1⟩;obtain⟨va,vc,rfl⟩:=hsg.form
 have B1:=hid (BZ.o.trans (hb1.mono hsz));have S1:Hid (w1.cell? ⟨fb,0,none⟩=some (.func (.func g) #[] cs)/\w1.cell? ⟨pb,0,none⟩=some (.slice a p.length cap)):=⟨wS SZ.o.1 hb1,wS SZ.o.2 hb1⟩;have hs1:=B1.o.size;clear hsg hb1;refine hK.o _ _ S1.o (fun _=>?_);clear hK K;obtain⟨m,Hm⟩:=Nm ((Sp.ahead p i).length);rw[Hm.o]at hal HP;rw[Hm.o];have hw1:IntKind.i64.wrap ((m:Int)+1)=(m:Int)+1:=by rw[IntKind.wrap_i64];omega
 have hc:=HF.o (m+1) oo oo w1 B1.o;rw[show(((m+1:Nat)):Int)=(m:Int)+1 by omega]at hc;have HC:=hid hc;clear hc;refine dH 4 rfl S1.o (fun _ _=>gs) ?_;refine dH 5 rfl S1.o (fun _ _=>gs) ?_;refine iW 6 fun K hK=>?_;go_simp;refine HC.o.mono ?_;rintro e wq ⟨rfl,hwq⟩;have BQ:=hid (B1.o.trans (hwq.mono hs1));have SQ:Hid (wq.cell? ⟨fb,0,none⟩=some (.func (.func g) #[] cs)/\wq.cell? ⟨pb,0,none⟩=some (.slice a p.length cap)):=⟨wS S1.o.1 hwq,wS S1.o.2 hwq⟩;clear hwq;refine hK.o _ _ SQ.o (fun _=>?_);clear hK K;refine iW 7 fun K hK=>?_;go_simp;refine hK.o _ _ (SQ.o) (fun _=>?_);clear hK K;refine wpAnyH_done Ao ?_ _
 go_wp2_with fail;go_ret;rw[HP.o];exact⟨rfl,BQ.o⟩
theorem alU(B:Nat)(p:aI)(a:Option Addr)(cap:Nat)(g:Nat)(cs:Array Av)(t:Nat->Bool)(w:WD)(h:jZ B w p a cap)
  (hg:∀(args:Array Av) (w:WD),(callFunc g args).run prog w=.ok (.enter g args) w)
  (hf:∀k,1<=k->k<=31->∀w',Below w.heap.size w w'->Calls prog g (#[.int .i64 (k:Int)]++cs) w' fun ex w''=>ex=.returned (.bool (t k))/\Below w'.heap.size w' w''):
  Calls prog 360 #[.agg #[.slice a p.length cap],.func (.func g) #[] cs] w fun ex w'=>ex=.returned (.int .u64 (jq (fun i=>t (qo p i)) p.length:Int))/\Below w.heap.size w w':=by
 have hmf:=nI;have hlen:=h.len;have hBw:=h.lt;obtain⟨V1,V2,hb⟩:=iR w (.slice a p.length cap) 66 (.func (.func g) #[] cs) 69;have P2:=hid (h.below hb hBw);have c1:=V1.c;have c2:=V2.c;have H1:=hid V1;have H2:=hid V2;have B2:=hid hb
 have HF:=hid hf;have HG:=hid hg;clear V1 V2 hb h hf hg;go_in;go_wp2_with fail;generalize(w.alloc (.cells #[.slice a p.length cap] 66)).alloc (.cells #[.func (.func g) #[] cs] 69)=w2 at *;refine(rZ p.length a cap _ _ (fun i=>t (qo p i)) w2 hlen.2 (fun _ _=>rfl) ?_).mono ?_
 .intro i hi w' hb';refine alT B p a cap _ _ i g cs t w' (P2.o.below hb' P2.o.lt) hi (H2.o.below hb' H2.o.lt) (H1.o.below hb' H1.o.lt) HG.o ?_;intro k hk1 hk2 w'' aea;exact HF.o k hk1 hk2 w'' ((AC B2.o hb').trans (aea.mono (Nat.le_trans B2.o.size hb'.size)))
 .rintro e wq ⟨rfl,hwq⟩;have B3:=hid (AC B2.o hwq);clear hwq;go_wp2_with fail;go_ret;exact⟨rfl,B3.o⟩
def stS(p:aI)(nm:BY):Nat:=if nm=BL then 1 else if nm=uY then jq (fun i=>qo p i==1) p.length else if nm=BM then zI p p.length else ER p (p.length-1)
theorem aeG(k:Nat)(w:WD):
  Calls prog 361 #[.int .i64 (k:Int)] w fun ex w'=>ex=.returned (.bool (k==1))/\Below w.heap.size w w':=by
 have HV:Hid (((k:Int)==1)=(k==1)):=by show _=_;rw[Bool.eq_iff_iff];simp;omega
 go_in;go_wp2_with fail;go_ret;exact⟨aC HV.o,Ax⟩
theorem aeH(B:Nat)(p:aI)(a:Option Addr)(cap:Nat)(nm:BY)(w:WD)(h:jZ B w p a cap):
  Calls prog 356 #[.agg #[.string nm],.agg #[.slice a p.length cap]] w fun ex w'=>ex=.returned (.int .u64 (stS p nm:Int))/\Below w.heap.size w w':=by
 have hBw:=h.lt;obtain⟨V1,V2,hb⟩:=iR w (.string nm) 343 (.slice a p.length cap) 66;have P2:=hid (h.below hb hBw);have c1:=V1.c;have c2:=V2.c;have B2:=hid hb;clear V1 V2 hb h;have h1:(nm.toList==[114,111,111,116])=decide (nm=BL):=ay _ _;have h2:(nm.toList==[102,105,114,115,116,45,99,104,105,108,100])=decide (nm=uY):=ay _ _;have h3:(nm.toList==[108,97,115,116,45,99,104,105,108,100])=decide (nm=BM):=ay _ _;by_cases e1:nm=BL
 .have HS:Hid (stS p nm=1):=by show _=_;unfold stS;rw[if_pos e1]
  rw[decide_eq_true e1]at h1;clear e1 h2 h3;go_in;go_wp2_with fail;generalize(w.alloc (.cells #[.string nm] 343)).alloc (.cells #[.slice a p.length cap] 66)=w2 at *;refine pmb (ajN (.slice a p.length cap) w2) fun wq hwq=>?_;have B3:=hid (AC B2.o hwq);clear hwq;go_wp2_with fail;go_ret;rw[HS.o];exact⟨rfl,B3.o⟩
 rw[decide_eq_false e1]at h1;by_cases e2:nm=uY
 .have HS:Hid (stS p nm=jq (fun i=>qo p i==1) p.length):=by show _=_;unfold stS;rw[if_neg e1,if_pos e2]
  rw[decide_eq_true e2]at h2;clear e1 e2 h3;go_in;go_wp2_with fail;generalize(w.alloc (.cells #[.string nm] 343)).alloc (.cells #[.slice a p.length cap] 66)=w2 at *;refine pmb (alU B p a cap 361 #[] (fun k=>k==1) w2 P2.o (fun _ _=>rfl) (fun k _ _ w' _=>aeG k w')) fun wq hwq=>?_;have B3:=hid (AC B2.o hwq);clear hwq;go_wp2_with fail;go_ret;rw[HS.o];exact⟨rfl,B3.o⟩
 rw[decide_eq_false e2]at h2;by_cases e3:nm=BM
 .have HS:Hid (stS p nm=zI p p.length):=by show _=_;unfold stS;rw[if_neg e1,if_neg e2,if_pos e3]
  rw[decide_eq_true e3]at h3;clear e1 e2 e3;go_in;go_wp2_with fail;generalize(w.alloc (.cells #[.string nm] 343)).alloc (.cells #[.slice a p.length cap] 66)=w2 at *;refine pmb (aj9 B p a cap w2 P2.o) fun wq hwq=>?_;have B3:=hid (AC B2.o hwq);clear hwq;go_wp2_with fail;go_ret;rw[HS.o];exact⟨rfl,B3.o⟩
 rw[decide_eq_false e3]at h3
 .have HS:Hid (stS p nm=ER p (p.length-1)):=by show _=_;unfold stS;rw[if_neg e1,if_neg e2,if_neg e3]
  clear e1 e2 e3;go_in;go_wp2_with fail;generalize(w.alloc (.cells #[.string nm] 343)).alloc (.cells #[.slice a p.length cap] 66)=w2 at *;refine pmb (ahv B p a cap w2 P2.o) fun wq hwq=>?_;have B3:=hid (AC B2.o hwq);clear hwq;go_wp2_with fail;go_ret;rw[HS.o];exact⟨rfl,B3.o⟩
def Mc(k:Nat):BY:=if k=0 then sZ else if k=1 then l7 else aA
def plI(k:Nat):Nat:=if k=0 then 0 else if k=1 then 0 else k-2
def plT(k i:Nat):Bool:=if 2<=k then i==k-2 else i%2==1-k
def PlB(w:WD)(b:Nat)(nm:BY)(n:Int):Prop:=w.heap[b]?=some (.cells #[.string nm,.int .i64 n] 351 (0,0))
theorem PlB.cs{w:WD}{b:Nat}{nm:BY}{n:Int}(h:PlB w b nm n):w.cell? ⟨b,0,none⟩=some (.string nm)/\w.cell? ⟨b,1,none⟩=some (.int .i64 n):=by unfold World.cell?;rw[show w.heap[b]?=_ from h];exact⟨rfl,rfl⟩
theorem PlB.lt{w:WD}{b:Nat}{nm:BY}{n:Int}(h:PlB w b nm n):b<w.heap.size:=(Ay h)
theorem PlB.below{w w':WD}{b:Nat}{nm:BY}{n:Int}{g:Nat}(h:PlB w b nm n)(hb:Below g w w')(hg:b<g):PlB w' b nm n:=(hb.block b hg).trans h
theorem alW(k:Nat)(c:Nat):((k:Int).tmod 2==(c:Int))=(k%2==c):=by have e:(k:Int).tmod 2=((k%2:Nat):Int):=rfl;rw[e,Bool.eq_iff_iff];simp only[beq_iff_eq];omega
theorem aeI(k j b:Nat)(w:WD)(hb:PlB w b (Mc k) (plI k:Int)):
  Calls prog 375 #[.int .i64 (j:Int),.pointer (some ⟨b,0,none⟩)] w fun ex w'=>ex=.returned (.bool (plT k j))/\Below w.heap.size w w':=by
 have hcs:=hb.cs;clear hb;by_cases e0:k=0
 .have HV:Hid (((j:Int).tmod 2==1)=plT k j):=by show _=_;unfold plT;rw[if_neg oo,e0];exact alW j 1
  rw[show Mc k=sZ by unfold Mc;rw[if_pos e0],show plI k=0 by unfold plI;rw[if_pos e0]]at hcs;obtain⟨c0,c1⟩:=hcs;unfold sZ at c0;clear e0;go_in;go_wp2_with fail;go_ret;exact⟨aC HV.o,Ax⟩
 .by_cases e1:k=1
  .have HV:Hid (((j:Int).tmod 2==0)=plT k j):=by show _=_;unfold plT;rw[if_neg oo,e1];exact alW j 0
   rw[show Mc k=l7 by unfold Mc;rw[if_neg e0,if_pos e1],show plI k=0 by unfold plI;rw[if_neg e0,if_pos e1]]at hcs;obtain⟨c0,c1⟩:=hcs;unfold l7 at c0;clear e0 e1;go_in;go_wp2_with fail;go_ret;exact⟨aC HV.o,Ax⟩
  .have HV:Hid (((j:Int)==((plI k:Nat):Int))=plT k j):=by
    show _=_;unfold plT plI;rw[if_pos (show 2<=k by omega),if_neg e0,if_neg e1,Bool.eq_iff_iff];simp only[beq_iff_eq];omega
   rw[show Mc k=aA by unfold Mc;rw[if_neg e0,if_neg e1]]at hcs;generalize plI k=n at *;obtain⟨c0,c1⟩:=hcs;unfold aA at c0;clear e0 e1;go_in;go_wp2_with fail;go_ret;exact⟨aC HV.o,Ax⟩
theorem ahw(w:WD)(nm:BY)(n:Int)(o:Obj):PlB ((w.alloc (.cells #[.string nm,.int .i64 n] 351)).alloc o) w.heap.size nm n:=by have q:PlB (w.alloc (.cells #[.string nm,.int .i64 n] 351)) w.heap.size nm n:=heap_alloc_new w _;exact q.below (Ax.alloc nl _) q.lt
theorem Zq(w:WD)(o:Obj)(v:Av)(T:TypeId):bU ((w.alloc o).alloc (.cells #[v] T)) (w.heap.size+1) v T:=by have q:=bU.new (w.alloc o) v T;rwa[World.size_alloc]at q
theorem NP(w:WD)(o o':Obj):Below w.heap.size w ((w.alloc o).alloc o'):=(Ax.alloc nl _).alloc Ab _
theorem XM(B:Nat)(p:aI)(a:Option Addr)(cap:Nat)(nm:BY)(n:Int)(t:Nat->Bool)(w:WD)(h:jZ B w p a cap)
  (hf:∀(j b:Nat) (w':WD),PlB w' b nm n->Calls prog 375 #[.int .i64 (j:Int),.pointer (some ⟨b,0,none⟩)] w' fun ex w''=>ex=.returned (.bool (t j))/\Below w'.heap.size w' w''):
  Calls prog 372 #[.agg #[.string nm,.int .i64 n],.agg #[.slice a p.length cap]] w fun ex w'=>ex=.returned (.int .u64 (jq (fun i=>t (qo p i)) p.length:Int))/\Below w.heap.size w w':=by
 have hmf:=nI;have hBw:=h.lt;have B2:Hid (Below w.heap.size w ((w.alloc (.cells #[.string nm,.int .i64 n] 351)).alloc (.cells #[.slice a p.length cap] 66))):=NP _ _ _;have H1:Hid (PlB ((w.alloc (.cells #[.string nm,.int .i64 n] 351)).alloc (.cells #[.slice a p.length cap] 66)) w.heap.size nm n):=ahw _ _ _ _;have V2:bU ((w.alloc (.cells #[.string nm,.int .i64 n] 351)).alloc (.cells #[.slice a p.length cap] 66)) (w.heap.size+1) (.slice a p.length cap) 66:=Zq _ _ _ _;have P2:=hid (h.below B2.o hBw);obtain⟨c0,c1⟩:=H1.o.cs;have c2:=V2.c;have HF:=hid hf;clear V2 h hf
 go_in;go_wp2_with fail;generalize((w.alloc (.cells #[.string nm,.int .i64 n] 351)).alloc (.cells #[.slice a p.length cap] 66))=w2 at *;refine(alU B p a cap _ _ t w2 P2.o (fun _ _=>rfl) ?_).mono ?_
 .intro j _ _ w' hb';exact HF.o j _ w' (H1.o.below hb' H1.o.lt)
 .rintro e wq ⟨rfl,hwq⟩;have B3:=hid (AC B2.o hwq);clear hwq;go_wp2_with fail;go_ret;exact⟨rfl,B3.o⟩
theorem aeJ(B:Nat)(p:aI)(a:Option Addr)(cap:Nat)(k:Nat)(w:WD)(h:jZ B w p a cap):
  Calls prog 372 #[.agg #[.string (Mc k),.int .i64 (plI k:Int)],.agg #[.slice a p.length cap]] w fun ex w'=>ex=.returned (.int .u64 (jq (fun i=>plT k (qo p i)) p.length:Int))/\Below w.heap.size w w':=
 XM B p a cap _ _ (plT k) w h (fun j b w' hb=>aeI k j b w' hb)
theorem alX(B:Nat)(p:aI)(a:Option Addr)(cap:Nat)(la:Option Addr)(ln lc s:Nat)(w:WD)(h:jZ B w p a cap)
  (hf:∀w',Below w.heap.size w w'->Calls prog 46 #[.slice la ln lc,.agg #[.slice a p.length cap]] w' fun ex w''=>ex=.returned (.int .u64 (s:Int))/\Below w'.heap.size w' w''):
  Calls prog 369 #[.agg #[.slice la ln lc],.agg #[.slice a p.length cap]] w fun ex w'=>ex=.returned (.int .u64 (s:Int))/\Below w.heap.size w w':=by
 have hBw:=h.lt;obtain⟨V1,V2,hb⟩:=iR w (.slice la ln lc) 346 (.slice a p.length cap) 66;have c1:=V1.c;have c2:=V2.c;have B2:=hid hb;have HF:=hid hf;clear V1 V2 hb h hf;go_in;go_wp2_with fail;generalize((w.alloc (.cells #[.slice la ln lc] 346)).alloc (.cells #[.slice a p.length cap] 66))=w2 at *;refine pmb (HF.o w2 B2.o) fun wq hwq=>?_;have B3:=hid (AC B2.o hwq);clear hwq;go_wp2_with fail;go_ret;exact⟨rfl,B3.o⟩
theorem akc(B:Nat)(p:aI)(a:Option Addr)(cap:Nat)(la:Option Addr)(ln lc s:Nat)(w:WD)(h:jZ B w p a cap)
  (hf:∀w',Below w.heap.size w w'->Calls prog 46 #[.slice la ln lc,.agg #[.slice a p.length cap]] w' fun ex w''=>ex=.returned (.int .u64 (s:Int))/\Below w'.heap.size w' w''):
  Calls prog 365 #[.agg #[.slice la ln lc],.agg #[.slice a p.length cap]] w fun ex w'=>ex=.returned (.int .u64 (Gg (2 ^ p.length-1) s:Int))/\Below w.heap.size w w':=by
 have hlen:=h.len;have hBw:=h.lt;obtain⟨V1,V2,hb⟩:=iR w (.slice la ln lc) 345 (.slice a p.length cap) 66;have d1:=V1.c;have d2:=V2.c;have B2:=hid hb;have HF:=hid hf;clear V1 V2 hb h hf;go_in;go_wp2_with fail;refine wp_region_any Ao ?_;change wpAny _ _ _ _ _ _ _ (World.drew _);obtain⟨wz,hwz⟩:∃x,World.drew ((w.alloc (.cells #[.slice la ln lc] 345)).alloc (.cells #[.slice a p.length cap] 66))=x:=⟨_,rfl⟩
 have hz:Below ((w.alloc (.cells #[.slice la ln lc] 345)).alloc (.cells #[.slice a p.length cap] 66)).heap.size ((w.alloc (.cells #[.slice la ln lc] 345)).alloc (.cells #[.slice a p.length cap] 66)) wz:=by rw[<-hwz];exact Ax.drew
 rw[hwz];have BZ:=hid (AC B2.o hz);have SZ:Hid (wz.cell? ⟨w.heap.size,0,none⟩=some (.slice la ln lc)/\wz.cell? ⟨w.heap.size+1,0,none⟩=some (.slice a p.length cap)):=⟨wS d1 hz,wS d2 hz⟩;clear hz hwz d1 d2 B2;refine wpAny_of_held (S:=fun wx=>wx.cell? ⟨w.heap.size,0,none⟩=some (.slice la ln lc)/\wx.cell? ⟨w.heap.size+1,0,none⟩=some (.slice a p.length cap)) _ _ _ _ ?_;refine dH 0 rfl SZ.o (by intro w hSw;obtain⟨z1,z2⟩:=hSw;exact gs) ?_;refine dH 1 rfl SZ.o (by intro w hSw;obtain⟨z1,z2⟩:=hSw;exact gs) ?_;refine dH 2 rfl SZ.o (by intro w hSw;obtain⟨z1,z2⟩:=hSw;exact gs) ?_;refine dH 3 rfl SZ.o (by intro w hSw;obtain⟨z1,z2⟩:=hSw;exact gs) ?_;refine iW 4 fun K hK=>?_;go_simp
 refine pmb (HF.o wz BZ.o) fun w1 hb1=>?_;have B1:=hid (AC BZ.o hb1);have S1:Hid (w1.cell? ⟨w.heap.size,0,none⟩=some (.slice la ln lc)/\w1.cell? ⟨w.heap.size+1,0,none⟩=some (.slice a p.length cap)):=⟨wS SZ.o.1 hb1,wS SZ.o.2 hb1⟩;clear hb1;refine hK.o _ _ S1.o (fun _=>?_);clear hK K;refine iW 5 fun K hK=>?_;go_simp;refine pmb (aa6 p.length a cap s w1 hlen.2) fun wq hwq=>?_;have BQ:=hid (AC B1.o hwq);have SQ:Hid (wq.cell? ⟨w.heap.size,0,none⟩=some (.slice la ln lc)/\wq.cell? ⟨w.heap.size+1,0,none⟩=some (.slice a p.length cap)):=⟨wS S1.o.1 hwq,wS S1.o.2 hwq⟩;clear hwq;refine hK.o _ _ SQ.o (fun _=>?_);clear hK K;refine iW 6 fun K hK=>?_;go_simp;refine hK.o _ _ (SQ.o) (fun _=>?_);clear hK K;refine wpAnyH_done Ao ?_ _
 go_wp2_with fail;go_ret;exact⟨rfl,BQ.o⟩
def lsS(S:List Step->Nat)(s:Nat):bY->Nat
 |[]=>s
 |c::r=>lsS S (s ||| S c) r
theorem aeK(S:List Step->Nat)(s:Nat){l:bY}{i:Nat}(h:i<l.length):lsS S s (l.drop i)=lsS S (s ||| S l[i]) (l.drop (i+1)):=by rw[List.drop_eq_getElem_cons h];rfl
theorem Zr(s t:Nat)(h:s<18446744073709551616)(ht:t<18446744073709551616):s ||| t<18446744073709551616:=by
 have e:(18446744073709551616:Nat)=2 ^ 64:=by decide
 rw[e]at h ht⊢;exact Nat.or_lt_two_pow h ht
theorem aeL(S:List Step->Nat)(hS:∀c,S c<18446744073709551616):∀(l:bY) (s:Nat),s<18446744073709551616->lsS S s l<18446744073709551616
 |[],_,h=>h
 |c::r,s,h=>aeL S hS r _ (Zr s _ h (hS c))
theorem aiy(f B:Nat)(S:List Step->Nat)(l:bY)(v:Av)(p:aI)(a:Option Addr)(cap:Nat)(w:WD)(h:SG (AA (aQ f)) 1 (fun b=>b<B) w v l)(hp:jZ B w p a cap)(hS:∀c,S c<18446744073709551616)
  (hC:∀c∈l,∀(cv:Av) (w':WD),Below w.heap.size w w'->SG (fO (aQ f)) 2 (fun b=>b<B) w' cv c->Calls prog 74 #[cv,.agg #[.slice a p.length cap]] w' fun ex w''=>ex=.returned (.int .u64 (S c:Int))/\Below w'.heap.size w' w''):
  Calls prog 46 #[v,.agg #[.slice a p.length cap]] w fun ex w'=>ex=.returned (.int .u64 (lsS S 0 l:Int))/\Below w.heap.size w w':=by
 have hl:=h.len;have hlen:=hp.len;have hBw:=hp.lt;have B0:Hid (Below w.heap.size w (w.alloc (.cells #[.slice a p.length cap] 66))):=Ax.alloc nl _;have V0:Hid (bU (w.alloc (.cells #[.slice a p.length cap] 66)) w.heap.size (.slice a p.length cap) 66):=bU.new _ _ _;have hF:Hid (Fair (AA (aQ f))):=One.fair (fO.fair (aQ.fair f));have HS:=hid (h.below hF.o B0.o hBw);have HCC:=hid hC;have HSL:=hid hS;obtain⟨ca,cc,rfl⟩:=h.form;clear h hp hC hS;obtain⟨R,HR⟩:=Nm (lsS S 0 l);rw[HR.o]
 go_in;go_wp2_with fail;generalize hw0:w.alloc (.cells #[.slice a p.length cap] 66)=w0 at *;have hs0:w0.heap.size=w.heap.size+1:=by rw[<-hw0];simp
 clear hw0;obtain⟨pb,Hpb⟩:=Nm w.heap.size;have hpb:=Hpb.o;rw[hpb]at V0;rw[hpb];go_loopg[5,10] l.length (fun gg v5 v10 wr=>∃(s i:Nat),v5=.int .u64 (s:Int)/\v10=.int .i64 (i:Int)/\i+gg=l.length/\s<18446744073709551616/\Aside (lsS S s (l.drop i)=R/\Below w0.heap.size w0 wr));case atStart=>exact⟨0,0,rfl,rfl,oo,oo,HR.o,Ax⟩
 case round=>
  obtain⟨go,hgo⟩:∃go,go=gk:=⟨_,rfl⟩;obtain⟨s,i,rfl,rfl,hi,hs,hA⟩:=hrel;have HC:Hid (lsS S s (l.drop i)=R/\Below w0.heap.size w0 wr):=hA.o;clear hA;have hsr:=HC.o.2.size;by_cases hlt:i<l.length
  .have h1:(i:Int)<(l.length:Int):=oo;have hS5:=HS.o.below hF.o HC.o.2 oo;obtain⟨g,o,rfl,hL,hcap⟩:=hS5.here (by rintro rfl;simp at hlt);obtain⟨cv,d0,hcv,hgB⟩:=hL.cxq (i:=i) hlt;have agf:g<B:=hgB;have BW:Hid (Below w.heap.size w wr):=by
    have q:Below w0.heap.size w0 wr:=HC.o.2;exact B0.o.trans (q.mono oo)
   have hcc:=HCC.o l[i] (List.getElem_mem hlt) cv wr BW.o hcv;have HD:Hid (lsS S s (l.drop i)=lsS S (s ||| S l[i]) (l.drop (i+1))):=aeK S s hlt;have ht:=HSL.o l[i];generalize S l[i]=t at *;obtain⟨la,lc,rfl⟩:=hcv.form;generalize l[i].length=ln at *;have sH:=hid hcc;have HE:=hid (HD.o.symm.trans HC.o.1);have HB:=hid (bits_or_u64_nat s t hs ht);have hst:s ||| t<18446744073709551616:=Zr s t hs ht;have V2:=hid (V0.o.below HC.o.2 oo);have c0:=V2.o.c;clear hcv hcc HD hL hS5;go_wp2_with fail;refine sH.o.mono ?_;rintro e w6 ⟨rfl,hb6⟩;have X6:=hid (HC.o.2.trans (hb6.mono hsr))
   clear hb6 sH c0 d0;go_wp2_with fail;go_roundg(go-1);case measure=>omega
   case rel=>exact⟨s ||| t,i+1,by rw[HB.o],by congr 1,oo,hst,HE.o,X6.o⟩
  .have h1:(l.length:Int)<=(i:Int):=oo;have HV:Hid (s=R):=by
    show _=_;rw[<-HC.o.1,List.drop_of_length_le (show l.length<=i by omega)];rfl
   have BE:Hid (Below w.heap.size w wr):=by have:Below w0.heap.size w0 wr:=HC.o.2;exact B0.o.trans (this.mono oo)
   go_wp2_with fail;go_ret;exact⟨by rw[HV.o];rfl,BE.o⟩
def GN(p:aI)(cb s:Nat):Nat:=
 if cb=32 then mD p s p.length
 else if cb=62 then jq (fun i=>hasB s (parentOf p i)) p.length
 else if cb=43 then jq (fun i=>wR p s i) p.length
 else if cb=126 then jq (fun i=>(Sp.ahead p i).any fun j=>s.testBit j) p.length
 else 2 ^ p.length-1
theorem aeM(p:aI)(cb s:Nat)(hp:p.length<=30):GN p cb s<18446744073709551616:=by
 unfold GN;have:=wB p.length hp;repeat' split
 all_goals first|omega|exact EO p s _ hp|exact uJ _ _ hp
theorem ahx(B:Nat)(p:aI)(a:Option Addr)(cap cb s:Nat)(w:WD)(h:jZ B w p a cap)(hs:s<18446744073709551616):
  Calls prog 127 #[.int .i64 (sG cb),.int .u64 (s:Int),.agg #[.slice a p.length cap]] w fun ex w'=>ex=.returned (.int .u64 (GN p cb s:Int))/\Below w.heap.size w w':=by
 have B0:Hid (Below w.heap.size w (w.alloc (.cells #[.slice a p.length cap] 66))):=Ax.alloc nl _;have V0:Hid (bU (w.alloc (.cells #[.slice a p.length cap] 66)) w.heap.size (.slice a p.length cap) 66):=bU.new _ _ _;have hlen:=h.len;have wX:Hid (jZ B (w.alloc (.cells #[.slice a p.length cap] 66)) p a cap):=h.alloc _;have hsz:=B0.o.size;clear h;have c0:=V0.o.c;by_cases e0:cb=32
 .have HV:Hid (GN p cb s=mD p s p.length):=by show _=_;unfold GN;rw[if_pos e0]
  rw[show sG cb=1 by unfold sG;rw[if_pos e0],HV.o];clear HV e0;go_in;go_wp2_with fail;generalize w.alloc (.cells #[.slice a p.length cap] 66)=w0 at *;refine pmb (ag5 B p a cap s _ wX.o hs) fun wq hwq=>?_;have B3:=hid (B0.o.trans (hwq.mono hsz));clear hwq;go_wp2_with fail;go_ret;exact⟨rfl,B3.o⟩
 by_cases e1:cb=62
 .have HV:Hid (GN p cb s=jq (fun i=>hasB s (parentOf p i)) p.length):=by show _=_;unfold GN;rw[if_neg e0,if_pos e1]
  rw[show sG cb=2 by unfold sG;rw[if_neg e0,if_pos e1],HV.o];clear HV e0 e1;go_in;go_wp2_with fail;generalize w.alloc (.cells #[.slice a p.length cap] 66)=w0 at *;refine pmb (XL B p a cap s _ wX.o hs) fun wq hwq=>?_;have B3:=hid (B0.o.trans (hwq.mono hsz));clear hwq;go_wp2_with fail;go_ret;exact⟨rfl,B3.o⟩
 by_cases e2:cb=43
 .have HV:Hid (GN p cb s=jq (fun i=>wR p s i) p.length):=by show _=_;unfold GN;rw[if_neg e0,if_neg e1,if_pos e2]
  rw[show sG cb=3 by unfold sG;rw[if_neg e0,if_neg e1,if_pos e2],HV.o];clear HV e0 e1 e2;go_in;go_wp2_with fail;generalize w.alloc (.cells #[.slice a p.length cap] 66)=w0 at *;refine pmb (aj8 B p a cap s _ wX.o hs) fun wq hwq=>?_;have B3:=hid (B0.o.trans (hwq.mono hsz));clear hwq;go_wp2_with fail;go_ret;exact⟨rfl,B3.o⟩
 by_cases e3:cb=126
 focus
  have HV:Hid (GN p cb s=jq (fun i=>(Sp.ahead p i).any fun j=>s.testBit j) p.length):=by show _=_;unfold GN;rw[if_neg e0,if_neg e1,if_neg e2,if_pos e3]
  rw[show sG cb=4 by unfold sG;rw[if_neg e0,if_neg e1,if_neg e2,if_pos e3],HV.o];clear HV e0 e1 e2 e3;go_in;go_wp2_with fail;generalize w.alloc (.cells #[.slice a p.length cap] 66)=w0 at *;refine(aeD B p a cap s _ wX.o hs).mono ?_
 rotate_left;focus
  have HV:Hid (GN p cb s=2 ^ p.length-1):=by show _=_;unfold GN;rw[if_neg e0,if_neg e1,if_neg e2,if_neg e3]
  rw[show sG cb=0 by unfold sG;rw[if_neg e0,if_neg e1,if_neg e2,if_neg e3],HV.o];clear HV e0 e1 e2 e3;go_in;go_wp2_with fail;generalize w.alloc (.cells #[.slice a p.length cap] 66)=w0 at *;refine(TP p.length a cap _ hlen.2).mono ?_
 rotate_left;all_goals
  rintro e wq ⟨rfl,hwq⟩;have B3:=hid (B0.o.trans (hwq.mono hsz));clear hwq;go_wp2_with fail;go_ret;exact⟨rfl,B3.o⟩
def atF(nm:BY)(ft:BY->Bool):List (BY×BY)->Bool
 |[]=>false
 |y::r=>if y.1=nm then ft y.2 else atF nm ft r
def AtB(w:WD)(b:Nat)(nm how v:BY):Prop:=w.heap[b]?=some (.cells #[.string nm,.string how,.string v] 341 (0,0))
theorem AtB.cs{w:WD}{b:Nat}{nm how v:BY}(h:AtB w b nm how v):w.cell? ⟨b,0,none⟩=some (.string nm)/\w.cell? ⟨b,1,none⟩=some (.string how)/\w.cell? ⟨b,2,none⟩=some (.string v):=by unfold World.cell?;rw[show w.heap[b]?=_ from h];exact⟨rfl,rfl,rfl⟩
theorem AtB.lt{w:WD}{b:Nat}{nm how v:BY}(h:AtB w b nm how v):b<w.heap.size:=(Ay h)
theorem AtB.below{w w':WD}{b:Nat}{nm how v:BY}{g:Nat}(h:AtB w b nm how v)(hb:Below g w w')(hg:b<g):AtB w' b nm how v:=(hb.block b hg).trans h
def A2z(w:WD)(b:Nat)(x y:BY):Prop:=w.heap[b]?=some (.cells #[.string x,.string y] 96 (0,0))
theorem A2z.new(w:WD)(x y:BY):A2z (w.alloc (.cells #[.string x,.string y] 96)) w.heap.size x y:=heap_alloc_new w _
theorem A2z.cs{w:WD}{b:Nat}{x y:BY}(h:A2z w b x y):w.cell? ⟨b,0,none⟩=some (.string x)/\w.cell? ⟨b,1,none⟩=some (.string y):=by unfold World.cell?;rw[show w.heap[b]?=_ from h];exact⟨rfl,rfl⟩
theorem ahy(B:Nat)(x:Elem)(ca:Option Addr)(cl cc:Nat)(av:Av)(nm how v:BY)(ft:BY->Bool)(tb:Nat)(w:WD)(hb:AtB w tb nm how v)(hA:SG qH 2 (fun b=>b<B) w av x.attrs)(hB:B<=w.heap.size)(hv:∀y∈x.attrs,dK y.2=true)
  (hf:∀(y:BY) (w':WD),dK y=true->Below w.heap.size w w'->Calls prog 346 #[.agg #[.string nm,.string how,.string v],.string y] w' fun ex w''=>ex=.returned (.bool (ft y))/\Below w'.heap.size w' w''):
  Calls prog 345 #[Gh x (.slice ca cl cc) av,.pointer (some ⟨tb,0,none⟩)] w fun ex w'=>ex=.returned (.bool (atF nm ft x.attrs))/\Below w.heap.size w w':=by
 have hl:=hA.len;obtain⟨aa,ac,rfl⟩:=hA.form;unfold Gh;have X0:Hid (XE (w.alloc (.cells #[.int .i64 x.parent,.string x.tag,.string x.id,.slice ca cl cc,.slice aa x.attrs.length ac] 35)) w.heap.size x (.slice ca cl cc) (.slice aa x.attrs.length ac)):=heap_alloc_new w _;have B0:Hid (Below w.heap.size w (w.alloc (.cells #[.int .i64 x.parent,.string x.tag,.string x.id,.slice ca cl cc,.slice aa x.attrs.length ac] 35))):=Ax.alloc nl _;have A0:=hid (hA.below qH.fair B0.o hB);have T0:=hid (hb.below B0.o hb.lt);have htb:=hb.lt
 have HF:=hid hf;have HVP:=hid hv;clear hA hb hf hv;obtain⟨d0,d1,d2,d3,d4⟩:=X0.o.cs;obtain⟨R,HR⟩:=Nm (atF nm ft x.attrs);rw[HR.o];go_in;go_upto_region 1 with fail
 generalize hw0:w.alloc (.cells #[.int .i64 x.parent,.string x.tag,.string x.id,.slice ca cl cc,.slice aa x.attrs.length ac] 35)=w0 at *;have hs0:w0.heap.size=w.heap.size+1:=by rw[<-hw0];simp
 clear hw0;go_wp2_with fail;clear d0 d1 d2 d3 d4 X0;generalize x.attrs=l at *;go_loopg[9] l.length (fun gg v9 wr=>∃(i:Nat),v9=.int .i64 (i:Int)/\i+gg=l.length/\Aside (atF nm ft (l.drop i)=R/\Below w0.heap.size w0 wr));case atStart=>exact⟨0,rfl,oo,HR.o,Ax⟩
 case round=>
  obtain⟨go,hgo⟩:∃go,go=gk:=⟨_,rfl⟩;obtain⟨i,rfl,hi,hA⟩:=hrel;have HC:Hid (atF nm ft (l.drop i)=R/\Below w0.heap.size w0 wr):=hA.o;clear hA;have hsr:=HC.o.2.size;by_cases hlt:i<l.length
  .have h1:(i:Int)<(l.length:Int):=oo;have hS5:=A0.o.below qH.fair HC.o.2 oo;obtain⟨g,o,rfl,hL,hcap⟩:=hS5.here (by rintro rfl;simp at hlt);obtain⟨hgB,e0,e1,_,_⟩:=hL.att (i:=i) hlt;have agf:g<B:=hgB;obtain⟨y,hy⟩:∃y,y=l[i]:=⟨_,rfl⟩;have hvy:dK y.2=true:=by rw[hy];exact HVP.o _ (List.getElem_mem hlt)
   have Hdr:Hid (l.drop i=y::l.drop (i+1)):=by show _=_;rw[hy];exact List.drop_eq_getElem_cons hlt
   rw[<-hy]at e0 e1;clear hL hy hS5;obtain⟨y1,y2⟩:=y;have HVY:=hid hvy;clear hvy;have e0':wr.cell? ⟨g,o+i*2,none⟩=some (.string y1):=e0;have e1':wr.cell? ⟨g,o+i*2+1,none⟩=some (.string y2):=e1;have HD:Hid ((if y1=nm then ft y2 else atF nm ft (l.drop (i+1)))=R):=by show _=_;rw[<-HC.o.1,Hdr.o];rfl
   clear e0 e1 Hdr;have T2:Hid (A2z (wr.alloc (.cells #[.string y1,.string y2] 96)) wr.heap.size y1 y2):=A2z.new _ _ _;have X2:Hid (Below w0.heap.size w0 (wr.alloc (.cells #[.string y1,.string y2] 96))):=HC.o.2.alloc hsr _;go_upto_region 4 with fail
   generalize wr.alloc (.cells #[.string y1,.string y2] 96)=w2 at *;obtain⟨gt,mV⟩:=Nm wr.heap.size;have T3:Hid (A2z w2 gt y1 y2):=by rw[<-mV.o];exact T2.o
   rw[mV.o];clear T2 e0' e1';obtain⟨a0,a1⟩:=T3.o.cs;obtain⟨t0,t1,t2⟩:=(T0.o.below X2.o oo).cs;have hs2:=X2.o.size;have hnm:(y1.toList==nm.toList)=decide (y1=nm):=bytes_beq _ _;by_cases en:y1=nm
   .rw[decide_eq_true en]at hnm;have HV:Hid (ft y2=R):=by rw[<-HD.o,if_pos en];exact rfl
    have BW:=hid (B0.o.trans (X2.o.mono oo));have sH:=HF.o y2 w2 HVY.o BW.o;rw[HV.o]at sH;have HC2:=hid sH;clear sH en HD;go_wp2_with fail;refine HC2.o.mono ?_;rintro e w6 ⟨rfl,hb6⟩;have X6:=hid (BW.o.trans (hb6.mono oo));clear hb6;go_wp2_with fail;go_ret;exact⟨rfl,X6.o⟩
   .rw[decide_eq_false en]at hnm;have HV:Hid (atF nm ft (l.drop (i+1))=R):=by rw[<-HD.o,if_neg en];exact rfl
    clear en HD;go_wp2_with fail;go_roundg(go-1);case measure=>omega
    case rel=>exact⟨i+1,by congr 1,oo,HV.o,X2.o⟩
  .have h1:(l.length:Int)<=(i:Int):=oo;have HV:Hid (false=R):=by
    show _=_;rw[<-HC.o.1,List.drop_of_length_le (show l.length<=i by omega)];rfl
   have BE:Hid (Below w.heap.size w wr):=by have:Below w0.heap.size w0 wr:=HC.o.2;exact B0.o.trans (this.mono oo)
   go_wp2_with fail;go_ret;exact⟨by rw[<-HV.o];rfl,BE.o⟩
theorem aby{p:aI}(h:iL p=true){i:Nat}(hi:i<p.length):∀y∈p[i].attrs,dK y.2=true:=by unfold iL at h;simp only[Bool.and_eq_true]at h;have h1:=Eo p 0 i h.2 hi;unfold xC at h1;simp only[Bool.and_eq_true,List.all_eq_true]at h1;intro y hy;exact(h1.2 y hy).1.2
theorem ahz(w:WD)(nm how v:BY)(o:Obj):AtB ((w.alloc (.cells #[.string nm,.string how,.string v] 341)).alloc o) w.heap.size nm how v:=by have q:AtB (w.alloc (.cells #[.string nm,.string how,.string v] 341)) w.heap.size nm how v:=heap_alloc_new w _;exact q.below (Ax.alloc nl _) q.lt
theorem ahA(B:Nat)(p:aI)(a:Option Addr)(cap:Nat)(nm how v:BY)(ft:BY->Bool)(w:WD)(h:jZ B w p a cap)
  (hf:∀(y:BY) (w':WD),dK y=true->Below w.heap.size w w'->Calls prog 346 #[.agg #[.string nm,.string how,.string v],.string y] w' fun ex w''=>ex=.returned (.bool (ft y))/\Below w'.heap.size w' w''):
  Calls prog 342 #[.agg #[.string nm,.string how,.string v],.agg #[.slice a p.length cap]] w fun ex w'=>ex=.returned (.int .u64 (jq (TQ p (fun x=>atF nm ft x.attrs)) p.length:Int))/\Below w.heap.size w w':=by
 have hmf:=nI;have hBw:=h.lt;have B2:Hid (Below w.heap.size w ((w.alloc (.cells #[.string nm,.string how,.string v] 341)).alloc (.cells #[.slice a p.length cap] 66))):=NP _ _ _;have H1:Hid (AtB ((w.alloc (.cells #[.string nm,.string how,.string v] 341)).alloc (.cells #[.slice a p.length cap] 66)) w.heap.size nm how v):=ahz _ _ _ _ _;have V2:bU ((w.alloc (.cells #[.string nm,.string how,.string v] 341)).alloc (.cells #[.slice a p.length cap] 66)) (w.heap.size+1) (.slice a p.length cap) 66:=Zq _ _ _ _;have P2:=hid (h.below B2.o hBw);obtain⟨c0,c1,c3⟩:=H1.o.cs;have c2:=V2.c
 have HF:=hid hf;clear V2 h hf;go_in;go_wp2_with fail;generalize((w.alloc (.cells #[.string nm,.string how,.string v] 341)).alloc (.cells #[.slice a p.length cap] 66))=w2 at *;refine(GK B p a cap _ _ (fun x=>atF nm ft x.attrs) w2 P2.o (fun _ _=>rfl) ?_).mono ?_
 .intro i hi cv av w' hb' hcv hav;obtain⟨ca,cc,rfl⟩:=hcv.form;exact ahy B _ _ _ _ _ nm how v ft _ w' (H1.o.below hb' H1.o.lt) hav (Nat.le_trans P2.o.lt hb'.size) (aby P2.o.pg hi) (fun y w'' hy aea=>HF.o y w'' hy ((AC B2.o hb').trans (aea.mono (Nat.le_trans B2.o.size hb'.size))))
 .rintro e wq ⟨rfl,hwq⟩;have B3:=hid (AC B2.o hwq);clear hwq;go_wp2_with fail;go_ret;exact⟨rfl,B3.o⟩
def Zt(P:Simple->Nat)(s:Nat):List Simple->Nat
 |[]=>s
 |x::r=>Zt P (s &&& P x) r
def Kv(p:aI)(P:Simple->Nat)(s:Nat):List Step->Nat
 |[]=>s
 |(cb,all)::r=>Kv p P (Zt P (GN p cb s) all) r
theorem aeN(P:Simple->Nat)(s:Nat){l:List Simple}{i:Nat}(h:i<l.length):Zt P s (l.drop i)=Zt P (s &&& P l[i]) (l.drop (i+1)):=by rw[List.drop_eq_getElem_cons h];rfl
theorem aeO(p:aI)(P:Simple->Nat)(s:Nat){l:List Step}{i:Nat}(h:i<l.length):Kv p P s (l.drop i)=Kv p P (Zt P (GN p l[i].1 s) l[i].2) (l.drop (i+1)):=by rw[List.drop_eq_getElem_cons h];generalize l[i]=st;obtain⟨cb,all⟩:=st;rfl
theorem aeP(P:Simple->Nat):∀(l:List Simple) (s:Nat),s<18446744073709551616->Zt P s l<18446744073709551616
 |[],_,h=>h
 |_::r,s,h=>aeP P r _ (TR s _ h)
theorem PK(p:aI)(P:Simple->Nat)(hp:p.length<=30):∀(l:List Step) (s:Nat),s<18446744073709551616->Kv p P s l<18446744073709551616
 |[],_,h=>h
 |(cb,all)::r,s,_=>PK p P hp r _ (aeP P all _ (aeM p cb s hp))
def XO(f B:Nat)(p:aI)(a:Option Addr)(cap:Nat)(w:WD)(P:Simple->Nat):Prop:=
 ∀(x:Simple) (w':WD),Below w.heap.size w w'->∀pv,aQ f (fun b=>b<B) w' x [pv] ->
  ∃ T u K rcv, pv = .iface T u ∧ (∀ W : WD, (method 503 T u "rinse/selectors.on").run prog W = .ok (K, rcv) W) ∧ (∀ (args : Array Av) (W : WD), (callFunc K args).run prog W = .ok (.enter K args) W) ∧
   Calls prog K #[rcv,.agg #[.slice a p.length cap]] w' fun e w''=>e=.returned (.int .u64 (P x:Int))/\Below w'.heap.size w' w''
theorem aeQ(f B:Nat)(P:Simple->Nat)(cx:List Step)(v:Av)(p:aI)(a:Option Addr)(cap:Nat)(w:WD)(h:SG (fO (aQ f)) 2 (fun b=>b<B) w v cx)(hp:jZ B w p a cap)(hP:∀x,P x<18446744073709551616)(hr:XO f B p a cap w P):
  Calls prog 74 #[v,.agg #[.slice a p.length cap]] w fun ex w'=>ex=.returned (.int .u64 (Kv p P 0 cx:Int))/\Below w.heap.size w w':=by
 have hl:=h.len;have hlen:=hp.len;have hBw:=hp.lt;have B0:Hid (Below w.heap.size w (w.alloc (.cells #[.slice a p.length cap] 66))):=Ax.alloc nl _;have V0:Hid (bU (w.alloc (.cells #[.slice a p.length cap] 66)) w.heap.size (.slice a p.length cap) 66):=bU.new _ _ _;have wX:Hid (jZ B (w.alloc (.cells #[.slice a p.length cap] 66)) p a cap):=hp.alloc _;have hF:Hid (Fair (fO (aQ f))):=fO.fair (aQ.fair f);have hF2:Hid (Fair (aQ f)):=aQ.fair f;have HS:=hid (h.below hF.o B0.o hBw);have HRD:Hid (XO f B p a cap w P):=hr;have HPL:Hid (∀x,P x<18446744073709551616):=hP;obtain⟨ca,cc,rfl⟩:=h.form;clear h hp hr hP;obtain⟨R,HR⟩:=Nm (Kv p P 0 cx);rw[HR.o];go_in;go_wp2_with fail
 generalize hw0:w.alloc (.cells #[.slice a p.length cap] 66)=w0 at *;have hs0:w0.heap.size=w.heap.size+1:=by rw[<-hw0];simp
 clear hw0;obtain⟨pb,Hpb⟩:=Nm w.heap.size;have hpb:=Hpb.o;rw[hpb]at V0;rw[hpb];go_loopg[5,12] cx.length (fun gg v5 v12 wr=>∃(s i:Nat),v5=.int .u64 (s:Int)/\v12=.int .i64 (i:Int)/\i+gg=cx.length/\s<18446744073709551616/\Aside (Kv p P s (cx.drop i)=R/\Below w0.heap.size w0 wr));case atStart=>exact⟨0,0,rfl,rfl,oo,oo,HR.o,Ax⟩
 case round=>
  obtain⟨go,hgo⟩:∃go,go=gk:=⟨_,rfl⟩;obtain⟨s,i,rfl,rfl,hi,hs,hA⟩:=hrel;have HC:Hid (Kv p P s (cx.drop i)=R/\Below w0.heap.size w0 wr):=hA.o;clear hA;have hsr:=HC.o.2.size;by_cases hlt:i<cx.length
  .have h1:(i:Int)<(cx.length:Int):=oo;obtain⟨g,o,rfl,hL,hcap⟩:=HS.o.here (by rintro rfl;simp at hlt);obtain⟨av,d0,d1,hav,hgB⟩:=hL.stq (i:=i) hlt;have agf:g<B:=hgB;rw[<-HC.o.2.cell (p:=⟨g,_,none⟩) (show g<w0.heap.size by omega)]at d0 d1;have HD:Hid (Kv p P s (cx.drop i)=Kv p P (Zt P (GN p cx[i].1 s) cx[i].2) (cx.drop (i+1))):=aeO p P s hlt;generalize cx[i]=st at *;obtain⟨cb,all⟩:=st;have Ze:Hid (Kv p P (Zt P (GN p cb s) all) (cx.drop (i+1))=R):=HD.o.symm.trans HC.o.1;have PL:SG (aQ f) 1 (fun b=>b<B) w0 av all:=hav;have HAV:=hid PL;have hal:=PL.len;obtain⟨la,lc,rfl⟩:=PL.form;have d0':wr.cell? ⟨g,o+i*2,none⟩=some (.int .i64 (sG cb)):=d0;clear hav PL hL HD d0
   have T2:Hid (Vj (wr.alloc (.cells #[.int .i64 (sG cb),.slice la all.length lc] 219)) wr.heap.size (.int .i64 (sG cb)) (.slice la all.length lc)):=Vj.new _ _ _;have X2:Hid (Below w0.heap.size w0 (wr.alloc (.cells #[.int .i64 (sG cb),.slice la all.length lc] 219))):=HC.o.2.alloc hsr _;go_upto_region 5 with fail
   generalize wr.alloc (.cells #[.int .i64 (sG cb),.slice la all.length lc] 219)=w2 at *;obtain⟨gt,mV⟩:=Nm wr.heap.size;have T3:Hid (Vj w2 gt (.int .i64 (sG cb)) (.slice la all.length lc)):=by rw[<-mV.o];exact T2.o
   rw[mV.o];clear T2 d0' d1;obtain⟨a0,a1⟩:=T3.o.cs;have hs2:=X2.o.size;have V2:Hid (bU w2 pb (.slice a p.length cap) 66):=V0.o.below X2.o oo;have c0:=V2.o.c;have P2:=hid (wX.o.below X2.o wX.o.lt);go_wp2_with fail;refine(ahx B p a cap cb s _ P2.o hs).mono ?_;obtain⟨s1,Az⟩:=Nm (GN p cb s);have hs1:s1<18446744073709551616:=by rw[<-Az.o];exact aeM p cb s hlen.2
   rw[Az.o];rw[Az.o]at Ze;rintro e w3 ⟨rfl,hb3⟩;have X3:=hid (X2.o.trans (hb3.mono hs2));have T4:Hid (Vj w3 gt (.int .i64 (sG cb)) (.slice la all.length lc)):=T3.o.below hb3;clear hb3 a0 a1 c0 T3 V2 P2;obtain⟨a0,a1⟩:=T4.o.cs;go_wp2_with fail;go_loopg[5,24] all.length (fun gg v5 v24 wr=>∃(s m:Nat),v5=.int .u64 (s:Int)/\v24=.int .i64 (m:Int)/\m+gg=all.length/\s<18446744073709551616/\Aside (Kv p P (Zt P s (all.drop m)) (cx.drop (i+1))=R/\Below w0.heap.size w0 wr));case atStart=>exact⟨s1,0,rfl,rfl,oo,hs1,Ze.o,X3.o⟩
   case round=>
    obtain⟨gi,hgi⟩:∃gi,gi=gk:=⟨_,rfl⟩;obtain⟨s2,m,rfl,rfl,hm,hsm,hA⟩:=hrel;have xg:Hid (Kv p P (Zt P s2 (all.drop m)) (cx.drop (i+1))=R/\Below w0.heap.size w0 wr):=hA.o;clear hA;have ai9:=xg.o.2.size;by_cases hlm:m<all.length
    .have h2:(m:Int)<(all.length:Int):=oo;have QY:=HAV.o.below hF2.o xg.o.2 oo;obtain⟨g5,o5,rfl,hL5,hcap5⟩:=QY.here (by rintro rfl;simp at hlm);obtain⟨pv,c5,hps,_⟩:=hL5.prq (i:=m) hlm;have HAD:=aeN P s2 hlm;generalize all[m]=x at *;have V5:Hid (bU wr pb (.slice a p.length cap) 66):=V0.o.below xg.o.2 oo;have c0:=V5.o.c;have BW5:Below w.heap.size w wr:=by
      have q:Below w0.heap.size w0 wr:=xg.o.2;exact B0.o.trans (q.mono oo)
     obtain⟨T,pu,K,rcv,rfl,YD,hcall,hC⟩:=HRD.o x wr BW5 _ hps;have sH:Hid (Calls prog K #[rcv,.agg #[.slice a p.length cap]] wr fun e w''=>e=.returned (.int .u64 (P x:Int))/\Below wr.heap.size wr w''):=hC;obtain⟨t,Ht⟩:=Nm (P x);have ht:t<18446744073709551616:=by rw[<-Ht.o];exact HPL.o x
     have HE:Hid (Kv p P (Zt P (s2 &&& t) (all.drop (m+1))) (cx.drop (i+1))=R):=by show _=_;rw[<-xg.o.1,HAD,<-Ht.o]
     have HB:Hid (bits .and .u64 (s2:Int) (t:Int)=((s2 &&& t:Nat):Int)):=bits_and_u64_nat s2 t hsm ht;have hst:s2 &&& t<18446744073709551616:=TR s2 t hsm;rw[Ht.o]at sH;clear hps hC HAD hL5 QY BW5;go_wp2_with fail;refine sH.o.mono ?_;rintro e w6 ⟨rfl,hb6⟩;have X6:=hid (xg.o.2.trans (hb6.mono ai9));clear hb6 sH YD hcall c5 c0;go_wp2_with fail;go_roundg(gi-1);case measure=>omega
     case rel=>exact⟨s2 &&& t,m+1,by rw[HB.o],by congr 1,oo,hst,HE.o,X6.o⟩
    .have h2:(all.length:Int)<=(m:Int):=oo;have HE:Hid (Kv p P s2 (cx.drop (i+1))=R):=by
      show _=_;rw[<-xg.o.1,List.drop_of_length_le (show all.length<=m by omega)];rfl
     go_wp2_with fail;go_roundg(go-1);case measure=>omega
     case rel=>exact⟨s2,i+1,rfl,by congr 1,oo,hsm,HE.o,xg.o.2⟩
  .have h1:(cx.length:Int)<=(i:Int):=oo;have HV:Hid (s=R):=by
    show _=_;rw[<-HC.o.1,List.drop_of_length_le (show cx.length<=i by omega)];rfl
   have BE:Hid (Below w.heap.size w wr):=by have:Below w0.heap.size w0 wr:=HC.o.2;exact B0.o.trans (this.mono oo)
   go_wp2_with fail;go_ret;exact⟨by rw[HV.o];rfl,BE.o⟩
abbrev lI:=BY->BY->BY->Bool
def pJ(F:lI)(w:WD):Prop:=∀(nm how v y:BY) (w':WD),dK y=true->Below w.heap.size w w'->Calls prog 346 #[.agg #[.string nm,.string how,.string v],.string y] w' fun ex w''=>ex=.returned (.bool (F how v y))/\Below w'.heap.size w' w''
theorem pJ.below{F:lI}{w w':WD}(h:pJ F w)(hb:Below w.heap.size w w'):pJ F w':=fun nm how v y w'' hy hb'=>h nm how v y w'' hy (hb.trans (hb'.mono hb.size))
def NQ(F:lI)(p:aI)(L:bY->Nat)(k:Nat)(nm how v:BY)(l:bY)(pl:Nat):Nat:=
  if k=116\/k=35\/k=46 then onS p k nm
  else if k=91 then jq (TQ p (fun x=>atF nm (F how v) x.attrs)) p.length
  else if nm=nD then Gg (2 ^ p.length-1) (L l)
  else if nm=DY then L l
  else if nm=nG then jq (fun i=>plT pl (qo p i)) p.length
  else stS p nm
def Us(F:lI)(p:aI)(L:bY->Nat):Simple->Nat
 |.mk k nm how v l pl=>NQ F p L k nm how v l pl
theorem DN(F:lI)(p:aI)(L:bY->Nat)(k:Nat)(nm how v:BY)(l:bY)(pl:Nat):Us F p L (.mk k nm how v l pl)=NQ F p L k nm how v l pl:=rfl
def Me(F:lI)(p:aI):Nat->Simple->Nat
 |0=>Us F p (fun _=>0)
 |n+1=>Us F p (fun l=>lsS (Kv p (Me F p n) 0) 0 l)
theorem akd(p:aI)(nm:BY)(hp:p.length<=30):stS p nm<18446744073709551616:=by
 unfold stS;repeat' split
 all_goals first|omega|exact uJ _ _ hp|exact Zp p hp _|exact aht p hp _
theorem Ut(F:lI)(p:aI)(L:bY->Nat)(hp:p.length<=30)(hL:∀l,L l<18446744073709551616):∀x,Us F p L x<18446744073709551616:=by
 rintro ⟨k,nm,how,v,l,pl⟩;rw[DN];unfold NQ;repeat' split
 all_goals first|exact ajO p _ _ hp|exact uJ _ _ hp|exact GI _ _|exact hL _|exact akd p _ hp
theorem aeR(F:lI)(p:aI)(hp:p.length<=30):∀n x,Me F p n x<18446744073709551616
 |0,x=>Ut F p _ hp (fun _=>by decide) x
 |n+1,x=>Ut F p _ hp (fun l=>aeL _ (fun c=>PK p _ hp c 0 Al) l 0 Al) x
theorem ahB (nm how v : BY) (W : WD) : (method 503 341 (.agg #[.string nm, .string how, .string v]) "rinse/selectors.on").run prog W = .ok (342, .agg #[.string nm, .string how, .string v]) W := by kernel_rfl
theorem ake (lv : Av) (W : WD) : (method 503 345 (.agg #[lv]) "rinse/selectors.on").run prog W = .ok (365, .agg #[lv]) W := by kernel_rfl
theorem alY (lv : Av) (W : WD) : (method 503 346 (.agg #[lv]) "rinse/selectors.on").run prog W = .ok (369, .agg #[lv]) W := by kernel_rfl
theorem aeS (nm : BY) (n : Int) (W : WD) : (method 503 351 (.agg #[.string nm, .int .i64 n]) "rinse/selectors.on").run prog W = .ok (372, .agg #[.string nm, .int .i64 n]) W := by kernel_rfl
theorem aeT (nm : BY) (W : WD) : (method 503 343 (.agg #[.string nm]) "rinse/selectors.on").run prog W = .ok (356, .agg #[.string nm]) W := by kernel_rfl
theorem akf(pl:Nat):(if pl=0 then Value.agg #[.string sZ,.int .i64 0] else if pl=1 then .agg #[.string l7,.int .i64 0] else .agg #[.string aA,.int .i64 ((pl-2:Nat):Int)])=.agg #[.string (Mc pl),.int .i64 (plI pl:Int)]:=by
 unfold Mc plI;by_cases h0:pl=0
 .rw[if_pos h0,if_pos h0,if_pos h0];rfl
 .rw[if_neg h0,if_neg h0,if_neg h0];by_cases h1:pl=1
  .rw[if_pos h1,if_pos h1,if_pos h1];rfl
  .rw[if_neg h1,if_neg h1,if_neg h1]
theorem NR(F:lI)(L:bY->Nat)(B:Nat)(p:aI)(a:Option Addr)(cap:Nat)(k:Nat)(nm how v:BY)(l:bY)(pl:Nat)(la:Option Addr)(ln lc:Nat)(w:WD)(h:jZ B w p a cap)(hfit:pJ F w)
  (hL:∀w',Below w.heap.size w w'->Calls prog 46 #[.slice la ln lc,.agg #[.slice a p.length cap]] w' fun ex w''=>ex=.returned (.int .u64 (L l:Int))/\Below w'.heap.size w' w''):
  ∃ T u K rcv, fE k nm how v (.slice la ln lc) pl = .iface T u ∧ (∀ W : WD, (method 503 T u "rinse/selectors.on").run prog W = .ok (K, rcv) W) ∧ (∀ (args : Array Av) (W : WD), (callFunc K args).run prog W = .ok (.enter K args) W) ∧
   Calls prog K #[rcv,.agg #[.slice a p.length cap]] w fun e w''=>e=.returned (.int .u64 (Us F p L (.mk k nm how v l pl):Int))/\Below w.heap.size w w'':=by
 rw[DN];unfold NQ;by_cases hk:k=116\/k=35\/k=46
 .rw[if_pos hk];obtain⟨T,u,K,rcv,h1,h2,h3,h4⟩:=ag8 B p a cap k nm how v (.slice la ln lc) pl w h hk;exact⟨T,u,K,rcv,h1,h2,h3,h4 w Ax⟩
 .rw[if_neg hk];unfold fE;rw[if_neg (fun e=>hk (Or.inl e)),if_neg (fun e=>hk (Or.inr (Or.inl e))),if_neg (fun e=>hk (Or.inr (Or.inr e)))];by_cases e1:k=91
  .rw[if_pos e1,if_pos e1];exact⟨_,_,_,_,rfl,ahB nm how v,fun _ _=>rfl,ahA B p a cap nm how v (F how v) w h (fun y w' hy hb=>hfit nm how v y w' hy hb)⟩
  .rw[if_neg e1,if_neg e1];by_cases e2:nm=nD
   .rw[if_pos e2,if_pos e2];exact⟨_,_,_,_,rfl,ake _,fun _ _=>rfl,akc B p a cap la ln lc (L l) w h hL⟩
   .rw[if_neg e2,if_neg e2];by_cases e3:nm=DY
    .rw[if_pos e3,if_pos e3];exact⟨_,_,_,_,rfl,alY _,fun _ _=>rfl,alX B p a cap la ln lc (L l) w h hL⟩
    .rw[if_neg e3,if_neg e3];by_cases e4:nm=nG
     .rw[if_pos e4,if_pos e4,akf];exact⟨_,_,_,_,rfl,aeS _ _,fun _ _=>rfl,aeJ B p a cap pl w h⟩
     .rw[if_neg e4,if_neg e4];exact⟨_,_,_,_,rfl,aeT nm,fun _ _=>rfl,aeH B p a cap nm w h⟩
theorem Uu(F:lI)(B:Nat)(p:aI)(a:Option Addr)(cap:Nat):∀(n:Nat) (w:WD),jZ B w p a cap->pJ F w->XO n B p a cap w (Me F p n)
 |0,w,h,hfit=>by
  rintro ⟨k,nm,how,v,l,pl⟩ w' hb pv hx;obtain⟨rfl,la,lc,e⟩:=hx;obtain rfl:pv=fE k nm how v (.slice la 0 lc) pl:=by simpa using e
  have h':=h.below hb h.lt;refine NR F (fun _=>0) B p a cap k nm how v [] pl la 0 lc w' h' (hfit.below hb) ?_;intro w2 hb2;exact aiy 0 B (fun _=>0) [] _ p a cap w2 ⟨la,lc,rfl,⟨Nat.zero_le _,by decide⟩,fun hn=>absurd rfl hn⟩ (h'.below hb2 h'.lt) (fun _=>by decide) (fun c hc=>by cases hc)
 |n+1,w,h,hfit=>by
  rintro ⟨k,nm,how,v,l,pl⟩ w' hb pv hx;obtain⟨lv,e,hsg⟩:=hx;obtain rfl:pv=fE k nm how v lv pl:=by simpa using e
  have h':=h.below hb h.lt;obtain⟨la,lc,rfl⟩:=hsg.form;refine NR F (fun l=>lsS (Kv p (Me F p n) 0) 0 l) B p a cap k nm how v l pl la l.length lc w' h' (hfit.below hb) ?_;intro w2 hb2;have h2:=h'.below hb2 h'.lt;have akg:=hsg.below (One.fair (fO.fair (aQ.fair n))) hb2 h'.lt;refine aiy n B (Kv p (Me F p n) 0) l _ p a cap w2 akg h2 (fun c=>PK p _ h.len.2 c 0 Al) ?_;intro c _ cv w3 hb3 hcv;have h3:=h2.below hb3 h2.lt;exact aeQ n B (Me F p n) c cv p a cap w3 hcv h3 (aeR F p h.len.2 n) (Uu F B p a cap n w3 h3 (((hfit.below hb).below hb2).below hb3))
theorem aeU(nm how v:BY)(w:WD):
  Calls prog 343 #[.agg #[.string nm,.string how,.string v]] w fun ex w'=>ex=.returned (DC 0 1 0)/\Below w.heap.size w w':=by
 unfold DC;have A0:=wQ w (.cells #[.string nm,.string how,.string v] 341);have B0:=Gf w (.cells #[.string nm,.string how,.string v] 341);go_in;go_upto_region 1 with fail
 generalize(w.alloc (.cells #[.string nm,.string how,.string v] 341)).alloc (.cells #[.int .i64 0,.int .i64 0,.int .i64 0] 177)=w2 at *;obtain⟨r0,r1,r2⟩:=A0.o.cs;have f0:=A0.o.fz 0;have f1:=A0.o.fz 1;have f2:=A0.o.fz 2;go_wp2_with fail;refine bodyPost_ret (v:=.agg #[.int .i64 0,.int .i64 1,.int .i64 0]) (by simp[results,Tryz.results343,go_sem,r0,r1,r2]) rfl ?_;exact⟨rfl,jR B0.o oo _ _ _⟩
theorem abz(nm:BY)(w:WD):
  Calls prog 357 #[.agg #[.string nm]] w fun ex w'=>ex=.returned (DC 0 1 0)/\Below w.heap.size w w':=by
 unfold DC;have A0:=wQ w (.cells #[.string nm] 343);have B0:=Gf w (.cells #[.string nm] 343);go_in;go_upto_region 1 with fail
 generalize(w.alloc (.cells #[.string nm] 343)).alloc (.cells #[.int .i64 0,.int .i64 0,.int .i64 0] 177)=w2 at *;obtain⟨r0,r1,r2⟩:=A0.o.cs;have f0:=A0.o.fz 0;have f1:=A0.o.fz 1;have f2:=A0.o.fz 2;go_wp2_with fail;refine bodyPost_ret (v:=.agg #[.int .i64 0,.int .i64 1,.int .i64 0]) (by simp[results,Tryz.results357,go_sem,r0,r1,r2]) rfl ?_;exact⟨rfl,jR B0.o oo _ _ _⟩
theorem abA(nm:BY)(n:Int)(w:WD):
  Calls prog 373 #[.agg #[.string nm,.int .i64 n]] w fun ex w'=>ex=.returned (DC 0 1 0)/\Below w.heap.size w w':=by
 unfold DC;have A0:=wQ w (.cells #[.string nm,.int .i64 n] 351);have B0:=Gf w (.cells #[.string nm,.int .i64 n] 351);go_in;go_upto_region 1 with fail
 generalize(w.alloc (.cells #[.string nm,.int .i64 n] 351)).alloc (.cells #[.int .i64 0,.int .i64 0,.int .i64 0] 177)=w2 at *;obtain⟨r0,r1,r2⟩:=A0.o.cs;have f0:=A0.o.fz 0;have f1:=A0.o.fz 1;have f2:=A0.o.fz 2;go_wp2_with fail;refine bodyPost_ret (v:=.agg #[.int .i64 0,.int .i64 1,.int .i64 0]) (by simp[results,Tryz.results373,go_sem,r0,r1,r2]) rfl ?_;exact⟨rfl,jR B0.o oo _ _ _⟩
theorem ahC(la:Option Addr)(ln lc:Nat)(x:lU)(w:WD)
  (hf:∀w',Below w.heap.size w w'->Calls prog 323 #[.slice la ln lc] w' fun ex w''=>ex=.returned (Pq x)/\Below w'.heap.size w' w''):
  Calls prog 366 #[.agg #[.slice la ln lc]] w fun ex w'=>ex=.returned (Pq x)/\Below w.heap.size w w':=by
 unfold Pq DC at *;have A0:=wQ w (.cells #[.slice la ln lc] 345);have B0:=Gf w (.cells #[.slice la ln lc] 345);have V0:Hid (bU ((w.alloc (.cells #[.slice la ln lc] 345)).alloc (.cells #[.int .i64 0,.int .i64 0,.int .i64 0] 177)) w.heap.size (.slice la ln lc) 345):=(bU.new w _ _).alloc _;have HF:Hid (∀w',Below w.heap.size w w'->Calls prog 323 #[.slice la ln lc] w' fun ex w''=>ex=.returned (.agg #[.int .i64 (x.1:Int),.int .i64 (x.2.1:Int),.int .i64 (x.2.2:Int)])/\Below w'.heap.size w' w''):=hf;clear hf;go_in;go_upto_region 1 with fail
 generalize(w.alloc (.cells #[.slice la ln lc] 345)).alloc (.cells #[.int .i64 0,.int .i64 0,.int .i64 0] 177)=w2 at *;have c0:=V0.o.c;have HC:=hid (HF.o w2 B0.o);have hs2:=B0.o.size;go_wp2_with fail;refine HC.o.mono ?_;rintro e w3 ⟨rfl,hb3⟩;have A3:Hid (W3 w3 (w.heap.size+1) 0 0 0):=A0.o.below hb3 A0.o.lt;have B3:=hid (B0.o.trans (hb3.mono hs2));clear hb3 c0;obtain⟨r0,r1,r2⟩:=A3.o.cs;have f0:=A3.o.fz 0;have f1:=A3.o.fz 1;have f2:=A3.o.fz 2;go_wp2_with fail;refine bodyPost_ret (v:=.agg #[.int .i64 (x.1:Int),.int .i64 (x.2.1:Int),.int .i64 (x.2.2:Int)]) (by simp[results,Tryz.results366,go_sem,r0,r1,r2]) rfl ?_;exact⟨rfl,jR B3.o oo _ _ _⟩
theorem akh(la:Option Addr)(ln lc:Nat)(x:lU)(w:WD)
  (hf:∀w',Below w.heap.size w w'->Calls prog 323 #[.slice la ln lc] w' fun ex w''=>ex=.returned (Pq x)/\Below w'.heap.size w' w''):
  Calls prog 370 #[.agg #[.slice la ln lc]] w fun ex w'=>ex=.returned (Pq x)/\Below w.heap.size w w':=by
 unfold Pq DC at *;have A0:=wQ w (.cells #[.slice la ln lc] 346);have B0:=Gf w (.cells #[.slice la ln lc] 346);have V0:Hid (bU ((w.alloc (.cells #[.slice la ln lc] 346)).alloc (.cells #[.int .i64 0,.int .i64 0,.int .i64 0] 177)) w.heap.size (.slice la ln lc) 346):=(bU.new w _ _).alloc _;have HF:Hid (∀w',Below w.heap.size w w'->Calls prog 323 #[.slice la ln lc] w' fun ex w''=>ex=.returned (.agg #[.int .i64 (x.1:Int),.int .i64 (x.2.1:Int),.int .i64 (x.2.2:Int)])/\Below w'.heap.size w' w''):=hf;clear hf;go_in;go_upto_region 1 with fail
 generalize(w.alloc (.cells #[.slice la ln lc] 346)).alloc (.cells #[.int .i64 0,.int .i64 0,.int .i64 0] 177)=w2 at *;have c0:=V0.o.c;have HC:=hid (HF.o w2 B0.o);have hs2:=B0.o.size;go_wp2_with fail;refine HC.o.mono ?_;rintro e w3 ⟨rfl,hb3⟩;have A3:Hid (W3 w3 (w.heap.size+1) 0 0 0):=A0.o.below hb3 A0.o.lt;have B3:=hid (B0.o.trans (hb3.mono hs2));clear hb3 c0;obtain⟨r0,r1,r2⟩:=A3.o.cs;have f0:=A3.o.fz 0;have f1:=A3.o.fz 1;have f2:=A3.o.fz 2;go_wp2_with fail;refine bodyPost_ret (v:=.agg #[.int .i64 (x.1:Int),.int .i64 (x.2.1:Int),.int .i64 (x.2.2:Int)]) (by simp[results,Tryz.results370,go_sem,r0,r1,r2]) rfl ?_;exact⟨rfl,jR B3.o oo _ _ _⟩
theorem ahD (nm how v : BY) (W : WD) : (method 503 341 (.agg #[.string nm, .string how, .string v]) "rinse/selectors.weight").run prog W = .ok (343, .agg #[.string nm, .string how, .string v]) W := by kernel_rfl
theorem aeV (nm : BY) (W : WD) : (method 503 343 (.agg #[.string nm]) "rinse/selectors.weight").run prog W = .ok (357, .agg #[.string nm]) W := by kernel_rfl
theorem aeW (nm : BY) (n : Int) (W : WD) : (method 503 351 (.agg #[.string nm, .int .i64 n]) "rinse/selectors.weight").run prog W = .ok (373, .agg #[.string nm, .int .i64 n]) W := by kernel_rfl
theorem aki (lv : Av) (W : WD) : (method 503 345 (.agg #[lv]) "rinse/selectors.weight").run prog W = .ok (366, .agg #[lv]) W := by kernel_rfl
theorem alZ (lv : Av) (W : WD) : (method 503 346 (.agg #[lv]) "rinse/selectors.weight").run prog W = .ok (370, .agg #[lv]) W := by kernel_rfl
