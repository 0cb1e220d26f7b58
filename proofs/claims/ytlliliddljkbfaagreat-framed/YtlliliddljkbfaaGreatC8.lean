import Derived.Test.YtlliliddljkbfaaGreatC7
set_option maxHeartbeats 64000000
set_option maxRecDepth 100000
namespace Go.Proofs.YtlliliddljkbfaaGreat.Sp
section
def bt(w:BY):UInt8:=w.data.toList.headD 0
theorem Xe{w:BY}(h:w.size=1):w.data.toList=[bt w]/\w=b1 (bt w):=by
 have h1:w.data.toList.length=1:=h;have h2:w.data.toList=[bt w]:=by
  unfold bt;match w.data.toList,h1 with
  |[c],_=>rfl
 refine⟨h2,?_⟩;apply ByteArray.ext
 apply Array.toList_inj.1
 rw[h2];rfl
def SV(t:Tok):List Pc:=if closing t=aA then [] else [.sign (bt (closing t))]
def LY(t:Tok)(inn:List Pc):List Pc:=
 if t.kind=1 then [.blank]
 else if t.kind=2 then [.text t.word]
 else if t.kind=4 then [.hash t.word]
 else if t.kind=6 then [.pct t.word]
 else if t.kind=7 then [.dim t.word t.unit]
 else if t.kind=11 then .func t.word::(inn++[.sign 41])
 else if t.kind=14 then [.ident t.word]
 else if t.kind=15 then .sign (bt t.word)::(inn++SV t)
 else [.num t.word]
def SX(a:Option Tok)(b:Tok):List Pc:=match a with|none=>[]|some a=>if parts a b=true then [.com] else []
mutual
def pcN:Nd->List Pc
 |.mk t k=>LY t (zZ none k)
def zZ:Option Tok->List Nd->List Pc
 |_,[]=>[]
 |a,n::r=>(if Ak a n.t=true then [] else SX a n.t++pcN n)++zZ (some n.t) r
end
theorem Bc(n:Nd):pcN n=LY n.t (zZ none n.kids):=by cases n;simp[pcN]
theorem zl(a:Option Tok):zZ a []=[]:=by unfold zZ;rfl
theorem rQ(a:Option Tok)(n:Nd)(r:List Nd):zZ a (n::r)=(if Ak a n.t=true then [] else SX a n.t++pcN n)++zZ (some n.t) r:=by conv=>lhs;unfold zZ
structure vT(p:aF)(t:Tok)(k:List Nd):Prop where
 ok:dI t
 kd:1<=t.kind/\t.kind<=15
 harm:oI p t=true
 num:aaR t
 url:t.kind=11->small t.word=url->Y4 k
 leaf:closing t=aA->k=[]
mutual
def vN(p:aF):Nd->Prop
 |.mk t k=>vT p t k/\vL p k
def vL(p:aF):List Nd->Prop
 |[]=>True
 |n::r=>vN p n/\vL p r
end
theorem EJ(p:aF)(n:Nd):vN p n↔vT p n.t n.kids/\vL p n.kids:=by cases n;simp[vN]
theorem Xf(p:aF):∀(l:List Nd),vL p l↔∀n∈l,vN p n
 |[]=>by simp[vL]
 |m::r=>by simp[vL,Xf p r]
theorem vT.kinds{p:aF}{t:Tok}{k:List Nd}(h:vT p t k):t.kind=1\/t.kind=2\/t.kind=4\/t.kind=5\/t.kind=6\/t.kind=7\/t.kind=11\/t.kind=14\/t.kind=15:=by
 have h1:=h.kd;have h2:=h.harm;unfold oI at h2;split at h2
 .cases h2
 .omega
theorem jo{t:Tok}(h:t.kind=15):(closing t=aA\/(t.word=b1 40/\closing t=b1 41)\/(t.word=b1 91/\closing t=b1 93)\/(t.word=b1 123/\closing t=b1 125)):=by
 unfold closing;rw[if_neg (by omega),if_pos h];split
 .rename_i e;exact .inr (.inl ⟨e,rfl⟩)
 .split
  .rename_i e;exact .inr (.inr (.inl ⟨e,rfl⟩))
  .split
   .rename_i e;exact .inr (.inr (.inr ⟨e,rfl⟩))
   .exact .inl rfl
theorem OW(c:UInt8):b1 c≠aA:=fun h=>by have h2:(1:Nat)=0:=congrArg ByteArray.size h;omega
theorem ady{t:Tok}(h:t.kind=15):(closing t).data.toList=flat (SV t):=by unfold SV;rcases jo h with e|⟨_,e⟩|⟨_,e⟩|⟨_,e⟩<;>rw[e]<;>rfl
mutual
theorem adz(p:aF):∀(n:Nd),vN p n->(iM n).data.toList=flat (pcN n)
 |.mk t k,h=>by
  simp only[vN]at h;have ih:=Dw p none k h.2;unfold iM pcN LY Qy;rcases h.1.kinds with e|e|e|e|e|e|e|e|e
  .rw[if_pos e,if_pos e];rfl
  .rw[if_neg (by omega),if_pos e,if_neg (by omega),if_pos e,YW];simp[flat,Pc.bytes]
  .rw[if_neg (by omega),if_neg (by omega),if_neg (by omega),if_pos e,if_neg (by omega),if_neg (by omega),if_pos e,kV,pR];simp[flat,Pc.bytes,b1]
  .simp only[e];simp[flat,Pc.bytes]
  .simp only[e];simp[flat,Pc.bytes,b1]
  .simp only[e];simp[flat,Pc.bytes,agE]
  .simp only[e];simp[flat,Pc.bytes,pR,aN,ih,b1]
  .simp only[e];simp[flat,Pc.bytes,pR]
  .have hw:=Xe (h.1.ok.sign e);have hc:=ady e;simp only[e];simp[flat,Pc.bytes,aN,ih,hw.1,hc]
theorem Dw(p:aF):∀(a:Option Tok) (l:List Nd),vL p l->(l9 a l).data.toList=flat (zZ a l)
 |_,[],_=>by unfold l9 zZ;rfl
 |a,n::r,h=>by
  simp only[vL]at h;have h1:=adz p n h.1;have h2:=Dw p (some n.t) r h.2;unfold l9 zZ;rw[kV,aN,h2];congr 1
  split
  .rfl
  .rw[kV,aN,h1];congr 1
   cases a with
   |none=>rfl
   |some a=>show(if parts a n.t=true then og else aA).data.toList=flat (if parts a n.t=true then [Pc.com] else []);split<;>rfl
end
def SY(c:Int):Bool:=c == -1||c==32||c==44||c==58||c==59||c==41||c==93||c==125||c==91||c==123||c==47||c==33
theorem zn{c:Int}(h:SY c=true):lX c=false/\c≠92/\c≠40/\c≠62/\nT c/\c≠37/\kK c=false/\c≠45/\fG c=false/\c≠46/\c≠42:=by unfold SY at h;simp only[Bool.or_eq_true,beq_iff_eq]at h;unfold nT;rcases h with ((((((((((h|h)|h)|h)|h)|h)|h)|h)|h)|h)|h)|h<;>rw[h]<;>decide
def LZ(r:List UInt8):Prop:=SY (jy r)=true/\jy r≠32
theorem Xg{w:BY}(h:LX w)(X:List UInt8):aO (jy (w.data.toList++X))=false/\jy (w.data.toList++X)≠47:=by
 have hb:=(h w 0 [] ⟨Nat.zero_le _,by simp⟩ (show nT (-1) by unfold nT;decide)).1;have hf:=Nv hb;rw[(At.zero w).hd]at hf;cases hl:w.data.toList with
 |nil=>
  exfalso
  have:w=ByteArray.empty:=by apply ByteArray.ext;apply Array.toList_inj.1;rw[hl];rfl
  rw[this]at hb;revert hb;decide
 |cons c l=>rw[hl]at hf;exact⟨hf.1,hf.2.2.2⟩
theorem Dx{w:BY}(hw:0<w.size)(X:List UInt8):aO (jy (gZ w++X))=false/\jy (gZ w++X)≠47/\fG (jy (gZ w++X))=false:=by obtain⟨c,l,hc,hcc⟩:=Jz hw X;rw[hc];have hn:=yx (c:=(c.toNat:Int)) (hcc.elim (fun h=>.inr (.inr h)) (fun h=>h.elim (fun h=>.inr (.inl h)) .inl));exact⟨hn.1,hn.2.2.2.2.2.2.2.1,hn.2.2.2.2.2.2.2.2⟩
theorem OX{p:aF}{t:Tok}{k:List Nd}(h:vT p t k)(e:t.kind=15):bt t.word∈lT/\(closing t≠aA->bt t.word=40\/bt t.word=91\/bt t.word=123):=by
 have hh:=h.harm;unfold oI at hh;rw[if_neg (by omega),if_pos e]at hh;rcases jo e with c|⟨c,_⟩|⟨c,_⟩|⟨c,_⟩
 .rw[c]at hh;refine⟨?_,fun h=>absurd c h⟩;simp only[decide_true,Bool.not_true,Bool.false_or]at hh;unfold vk at hh;simp only[Bool.or_eq_true,decide_eq_true_eq]at hh;rcases hh with (((((((h|h)|h)|h)|h)|h)|h)|h)|h<;>rw[h]<;>decide
 .rw[c];exact⟨by decide,fun _=>by decide⟩
 .rw[c];exact⟨by decide,fun _=>by decide⟩
 .rw[c];exact⟨by decide,fun _=>by decide⟩
section
variable {t:Tok} (inn:List Pc)
theorem Y5(e:t.kind=1):LY t inn=[.blank]:=by simp[LY,e]
theorem Tc(e:t.kind=2):LY t inn=[.text t.word]:=by simp[LY,e]
theorem adA(e:t.kind=4):LY t inn=[.hash t.word]:=by simp[LY,e]
theorem adB(e:t.kind=5):LY t inn=[.num t.word]:=by simp[LY,e]
theorem adC(e:t.kind=6):LY t inn=[.pct t.word]:=by simp[LY,e]
theorem adD(e:t.kind=7):LY t inn=[.dim t.word t.unit]:=by simp[LY,e]
theorem Xh(e:t.kind=11):LY t inn=.func t.word::(inn++[.sign 41]):=by simp[LY,e]
theorem Xi(e:t.kind=14):LY t inn=[.ident t.word]:=by simp[LY,e]
theorem EK(e:t.kind=15):LY t inn=.sign (bt t.word)::(inn++SV t):=by simp[LY,e]
end
theorem nU(q:Pc)(X:List UInt8):flat [q]++X=q.bytes++X:=by simp[flat]
theorem qM(q:Pc)(l:List Pc)(X:List UInt8):flat (q::l)++X=q.bytes++(flat l++X):=by simp[flat]
theorem Xj{p:aF}{n:Nd}(h:vN p n)(hk:n.t.kind≠1)(X:List UInt8):aO (jy (flat (pcN n)++X))=false/\(jy (flat (pcN n)++X)=47->n.t.kind=15/\bt n.t.word=47/\pcN n=[.sign 47]):=by
 have hv:=((EJ p n).1 h).1;rw[Bc];rcases hv.kinds with e|e|e|e|e|e|e|e|e
 .exact absurd e hk
 .rw[Tc _ e,nU];exact⟨show aO 34=false by decide,fun h=>absurd h (show(34:Int)≠47 by decide)⟩
 .rw[adA _ e,nU];exact⟨show aO 35=false by decide,fun h=>absurd h (show(35:Int)≠47 by decide)⟩
 .rw[adB _ e,nU];have:=Xg (hv.num (.inl e)) X;exact⟨this.1,fun h=>absurd h this.2⟩
 .rw[adC _ e,nU];have:=Xg (hv.num (.inr (.inl e))) ([37]++X);rw[<-List.append_assoc]at this;exact⟨this.1,fun h=>absurd h this.2⟩
 .rw[adD _ e,nU];have:=Xg (hv.num (.inr (.inr e))) (oJ n.t.unit++X);rw[<-List.append_assoc]at this;exact⟨this.1,fun h=>absurd h this.2⟩
 .rw[Xh _ e,qM];have:=Dx (hv.ok.named (.inr (.inr (.inl e)))) ([40]++(flat (zZ none n.kids++[.sign 41])++X));rw[<-List.append_assoc]at this;exact⟨this.1,fun h=>absurd h this.2.1⟩
 .rw[Xi _ e,nU];have:=Dx (hv.ok.named (.inr (.inr (.inr e)))) X;exact⟨this.1,fun h=>absurd h this.2.1⟩
 .have hs:=OX hv e;have hf:=JA _ hs.1;rw[EK _ e,qM];refine⟨hf.1,fun h=>?_⟩;have h47:((bt n.t.word).toNat:Int)=47:=h;have e47:bt n.t.word=47:=UInt8.toNat_inj.1 (by simpa using(show(bt n.t.word).toNat=47 by omega));have hc:closing n.t=aA:=by
   by_cases hc:closing n.t=aA
   .exact hc
   .have:=hs.2 hc;rw[e47]at this;exact absurd this (by decide)
  refine⟨e,e47,?_⟩;rw[hv.leaf hc,zl];simp[SV,hc,e47]
theorem aiq{p:aF}{r:List UInt8}(hr:LZ r):∀(l:List Nd) (a:Tok),vL p l ->
  (a.kind=1->aO (jy (flat (zZ (some a) l)++r))=false)/\(oH a=false->closing a=aA->SY (jy (flat (zZ (some a) l)++r))=true)
 |[],a,_=>by rw[zl];refine⟨fun _=>?_,fun _ _=>hr.1⟩;have h1:=hr.1;have h2:=hr.2;show aO (jy r)=false;unfold SY at h1;simp only[Bool.or_eq_true,beq_iff_eq]at h1;unfold aO;simp;omega
 |n::l,a,h=>by
  simp only[vL]at h;have ih:=aiq hr l n.t h.2;rw[rQ];refine⟨fun ha=>?_,fun hs hc=>?_⟩
  .by_cases hn:n.t.kind=1
   .rw[if_pos (by unfold Ak;simp[ha,hn])];exact ih.1 hn
   .rw[if_neg (by unfold Ak;simp[hn])];have hg:SX (some a) n.t=[]:=by
     show(if parts a n.t=true then [Pc.com] else [])=[];rw[if_neg (by unfold parts oH;simp[ha])]
    rw[hg,List.nil_append,aN,List.append_assoc];exact(Xj h.1 hn _).1
  .have ha:a.kind≠1:=fun e=>by unfold oH at hs;simp[e]at hs
   rw[if_neg (by unfold Ak;simp[ha])];by_cases hp:parts a n.t=true
   .have hg:SX (some a) n.t=[.com]:=by show(if parts a n.t=true then [Pc.com] else [])=_;rw[if_pos hp]
    rw[hg];rfl
   .have hg:SX (some a) n.t=[]:=by show(if parts a n.t=true then [Pc.com] else [])=_;rw[if_neg hp]
    rw[hg,List.nil_append,aN,List.append_assoc,Bc];unfold parts at hp;rw[hs,hc]at hp;simp only[Bool.not_false,Bool.true_and,decide_true,Bool.and_true,Bool.and_eq_true,Bool.not_eq_true',not_and,Bool.not_eq_false]at hp;by_cases hsn:oH n.t=true
    .unfold oH at hsn;simp only[Bool.or_eq_true,Bool.and_eq_true,decide_eq_true_eq]at hsn;rcases hsn with e|⟨e,hw⟩
     .rw[Y5 _ e];rfl
     .rw[EK _ e,qM];unfold Yt at hw;simp only[Bool.or_eq_true,decide_eq_true_eq]at hw;rcases hw with ((((h|h)|h)|h)|h)|h<;>rw[h]<;>rfl
    .have amU:oH n.t=false:=by simpa using hsn
     by_cases KO:au n.t (b1 91)=true
     .unfold au at KO;simp only[Bool.and_eq_true,decide_eq_true_eq]at KO;rw[EK _ KO.1,qM,KO.2];rfl
     .have He:=hp ⟨amU,by simpa using KO⟩;unfold au at He;simp only[Bool.and_eq_true,decide_eq_true_eq]at He;rw[EK _ He.1,qM,He.2];rfl
theorem rU{q:Pc}{X:List UInt8}(hq:q≠.blank)(hc:q≠.com)(hf:∀w,q≠.func w)(h:SY (jy X)=true):q.stop X:=by
 obtain⟨h1,h2,h3,h4,h5,h6,h7,h8,h9,h10,h11⟩:=zn h;match q,hq,hc,hf with
 |.blank,hq,_,_=>exact absurd rfl hq
 |.text w,_,_,_=>trivial
 |.hash w,_,_,_=>exact⟨h1,h2⟩
 |.num w,_,_,_=>exact⟨h5,h6,h7,h8,h2⟩
 |.pct w,_,_,_=>trivial
 |.dim w u,_,_,_=>exact⟨h1,h2⟩
 |.at_ w,_,_,_=>exact⟨h1,h2⟩
 |.ident w,_,_,_=>exact⟨⟨h1,h2⟩,h3,h4⟩
 |.func w,_,_,hf=>exact absurd rfl (hf w)
 |.sign c,_,_,_=>exact⟨fun _=>⟨h9,h10⟩,fun _=>h9,fun _=>⟨h9,h10,h7,h8,h2⟩,fun _=>h11⟩
 |.com,_,hc,_=>exact absurd rfl hc
theorem pF{c:UInt8}(X:List UInt8)(h:c≠43/\c≠45/\c≠46/\c≠47):(Pc.sign c).stop X:=⟨fun e=>absurd e h.1,fun e=>absurd e h.2.2.1,fun e=>absurd e h.2.1,fun e=>absurd e h.2.2.2⟩
theorem ajB{w:BY}(h:small (vZ w)=url):small w=url/\vZ w=w:=by
 have h1:((w.data.toList.map zq).map jr)=[117,114,108]:=by have:=congrArg (fun x=>x.data.toList) h;simpa[small,vZ,url]using this
 have h2:∀c∈w.data.toList,zq c=c:=by
  intro c hc;have hm:jr (zq c)∈[117,114,108]:=by rw[<-h1];exact List.mem_map_of_mem (List.mem_map_of_mem hc)
  unfold zq at hm⊢;split at hm
  .exact absurd hm (by decide)
  .rename_i hz;rw[if_neg hz]
 have h3:vZ w=w:=by
  apply ByteArray.ext
  apply Array.toList_inj.1
  show(w.data.toList.map zq).toArray.toList=_;rw[List.toList_toArray];exact(List.map_congr_left h2).trans (List.map_id _)
 exact⟨by rw[h3]at h;exact h,h3⟩
theorem adE{t:Tok}(e:t.kind=15)(X:List UInt8):Good (SV t) X:=by
 unfold SV;split
 .trivial
 .rcases jo e with c|⟨_,c⟩|⟨_,c⟩|⟨_,c⟩
  .contradiction
  all_goals
   rw[c];exact⟨show _∈lT by decide,pF _ (by decide),trivial⟩
theorem adF{c:UInt8}(h:SY (c.toNat:Int)=true/\(c.toNat:Int)≠32)(X:List UInt8):LZ (flat [.sign c]++X):=by rw[nU];exact h
theorem agG{t:Tok}(e:t.kind=15)(hc:closing t≠aA)(X:List UInt8):LZ (flat (SV t)++X):=by
 unfold SV;rw[if_neg hc];rcases jo e with c|⟨_,c⟩|⟨_,c⟩|⟨_,c⟩
 .contradiction
 all_goals
  rw[c];exact adF (by decide) X
mutual
theorem alC(p:aF):∀(n:Nd) (X:List UInt8),vN p n->(n.t.kind=1->aO (jy X)=false)->(oH n.t=false->closing n.t=aA->SY (jy X)=true)->Good (pcN n) X
 |.mk t k,X,h,hb,hf=>by
  simp only[vN]at h;simp only[Nd.Qq]at hb hf;rw[Bc];simp only[Nd.Qq,Nd.BK];have hv:=h.1;have hns:t.kind≠1->t.kind≠15->oH t=false:=fun h1 h2=>by unfold oH;simp[h1,h2]
  have agH:t.kind≠11->t.kind≠15->closing t=aA:=fun h1 h2=>wu h2 h1;rcases hv.kinds with e|e|e|e|e|e|e|e|e
  .rw[Y5 _ e];exact⟨trivial,hb e,trivial⟩
  .rw[Tc _ e];exact⟨trivial,trivial,trivial⟩
  .rw[adA _ e];exact⟨hv.ok.named (.inl e),rU (by simp) (by simp) (by simp) (hf (hns AF AF) (agH AF AF)),trivial⟩
  .rw[adB _ e];exact⟨hv.num (.inl e),rU (by simp) (by simp) (by simp) (hf (hns AF AF) (agH AF AF)),trivial⟩
  .rw[adC _ e];exact⟨hv.num (.inr (.inl e)),trivial,trivial⟩
  .rw[adD _ e];exact⟨⟨hv.num (.inr (.inr e)),hv.ok.dim e⟩,rU (by simp) (by simp) (by simp) (hf (hns AF AF) (agH AF AF)),trivial⟩
  .rw[Xh _ e];have hg:=Td p none k (flat [.sign 41]++X) h.2 ⟨rfl,show(41:Int)≠32 by decide⟩;refine⟨hv.ok.named (.inr (.inr (.inl e))),?_,hg.append ⟨show(41:UInt8)∈lT by decide,pF _ (by decide),trivial⟩⟩;intro hu;obtain⟨n,r',hn,hk⟩:=hv.url e (ajB hu).1;rcases hk with hk|⟨b,hb,hk⟩
   .rw[hk]at h⊢;simp only[vL]at h;have hvn:=((EJ p n).1 h.2.1).1;have h2:n.t.kind=2:=by
     rcases hvn.kinds with e|e|e|e|e|e|e|e|e<;>omega
    rw[rQ,if_neg (by simp[Ak]),Bc,Tc _ h2];exact⟨_,.inl rfl⟩
   .rw[hk]at h⊢;simp only[vL]at h;have hvn:=((EJ p n).1 h.2.2.1).1;have h2:n.t.kind=2:=by
     rcases hvn.kinds with e|e|e|e|e|e|e|e|e<;>omega
    have hg:SX (some b.t) n.t=[]:=by show(if parts b.t n.t=true then [Pc.com] else [])=[];rw[if_neg (by unfold parts oH;simp[hb])]
    rw[rQ,if_neg (by simp[Ak]),Bc,Y5 _ hb,rQ,if_neg (by simp[Ak,h2]),hg,Bc,Tc _ h2];exact⟨_,.inr rfl⟩
  .rw[Xi _ e];exact⟨hv.ok.named (.inr (.inr (.inr e))),rU (by simp) (by simp) (by simp) (hf (hns AF AF) (agH AF AF)),trivial⟩
  .rw[EK _ e];have hs:=OX hv e;by_cases hc:closing t=aA
   .rw[hv.leaf hc,zl];have hcl:SV t=[]:=by unfold SV;rw[if_pos hc]
    rw[hcl];refine⟨hs.1,?_,trivial⟩;by_cases hso:oH t=true
    .refine pF _ ?_;unfold oH Yt at hso;simp only[Bool.or_eq_true,Bool.and_eq_true,decide_eq_true_eq]at hso;rcases hso with h|⟨_,((((h|h)|h)|h)|h)|h⟩
     .omega
     all_goals(rw[h];decide)
    .exact rU (by simp) (by simp) (by simp) (hf (by simpa using hso) hc)
   .have hg:=Td p none k (flat (SV t)++X) h.2 (agG e hc X);refine⟨hs.1,pF _ ?_,hg.append (adE e X)⟩;rcases hs.2 hc with h|h|h<;>rw[h]<;>decide
theorem Td(p:aF):∀(a:Option Tok) (l:List Nd) (r:List UInt8),vL p l->LZ r->Good (zZ a l) r
 |_,[],_,_,_=>by rw[zl];trivial
 |a,n::l,r,h,hr=>by
  simp only[vL]at h;have hh:=aiq hr l n.t h.2;have hN:=alC p n (flat (zZ (some n.t) l)++r) h.1 hh.1 hh.2;have hL:=Td p (some n.t) l r h.2 hr;rw[rQ];refine Good.append ?_ hL;split
  .trivial
  .rename_i htw;refine Good.append ?_ hN;cases a with
   |none=>trivial
   |some a=>
    show Good (if parts a n.t=true then [Pc.com] else []) _;split
    .rename_i hp;refine⟨trivial,?_,trivial⟩;rintro ⟨q1,q2⟩;have hk:n.t.kind≠1:=fun e=>by
      unfold parts oH at hp;simp[e]at hp
     have hp1:=(Xj h.1 hk (flat (zZ (some n.t) l)++r)).2 q1;rw[hp1.2.2]at q2;have q3:jy (flat (zZ (some n.t) l)++r)=42:=q2;have hso:oH n.t=false:=by unfold parts at hp;simp only[Bool.and_eq_true,Bool.not_eq_true']at hp;exact hp.1.1.1.2
     have hcl:closing n.t=aA:=by
      have hs:=OX ((EJ p n).1 h.1).1 hp1.1;by_cases hc:closing n.t=aA
      .exact hc
      .have:=hs.2 hc;rw[hp1.2.1]at this;exact absurd this (by decide)
     have:=(zn (hh.2 hso hcl)).2.2.2.2.2.2.2.2.2.2;exact this q3
    .trivial
end
end
section
def Xk:Simple->Nat
 |.mk k _ _ _ _ _=>k
def adG(k:Nat)(nm how:BY):Prop:=k=116\/((k=35\/k=46)/\0<nm.size)\/(k=91/\0<nm.size/\wL how)\/(k=58/\Il nm)
def rV(l:List Simple):Prop:=∀s∈l,Xk s≠116
mutual
def Tf:Simple->Prop
 |.mk k nm how _ l p=>adG k nm how/\p<=1001/\F9 l
def KQ:List Simple->Prop
 |[]=>True
 |s::r=>Tf s/\KQ r
def sfC:List (Nat×List Simple)->Prop
 |[]=>False
 |(b,all)::r=>b=0/\all≠[]/\rV all.tail/\KQ all/\sfR r
def sfR:List (Nat×List Simple)->Prop
 |[]=>True
 |(b,all)::r=>Io b/\all≠[]/\rV all.tail/\KQ all/\sfR r
def F9:List (List (Nat×List Simple))->Prop
 |[]=>True
 |c::r=>sfC c/\F9 r
end
theorem lH{k:Nat}{nm h v:BY}{p:Nat}(hs:adG k nm h)(hp:p<=1001):Tf (.mk k nm h v [] p):=by simp[Tf,F9,hs,hp]
theorem Ny{n:Nd}(h:okN n)(hk:n.t.kind=14):0<n.t.word.size:=((jl n).1 h).1.named (.inr (.inr (.inr hk)))
theorem Ti{n:Nd}(h:okN n)(hk:n.t.kind=4):0<n.t.word.size:=((jl n).1 h).1.named (.inl hk)
theorem Nz{l:List Nd}{s:Simple}(hl:gu l)(h:gG l=some s):Tf s/\Xk s≠116:=by
 unfold gG at h;split at h
 .cases h
 .rename_i n r;simp only at h;split at h
  .cases h
  .rename_i hk;have hp:=Ny hl.1 (by simpa using hk);split at h
   .cases h;exact⟨lH (.inr (.inr (.inl ⟨rfl,hp,by simp[wL]⟩))) AF,by simp[Xk,Simple.of]⟩
   .rename_i m r1 hb;split at h
    .cases h
    .split at h
     .cases h
     .rename_i q r2 hq;split at h
      .rename_i v hv;split at h
       .cases h;refine⟨lH (.inr (.inr (.inl ⟨rfl,hp,?_⟩))) AF,by simp[Xk]⟩;split
        .rename_i hm;rcases hm with e|e|e|e<;>rw[e]<;>unfold wL<;>decide
        .unfold wL;decide
       .cases h
      .cases h
section
variable {rec:List Nd->Option bY} (hrec : ∀ l ss,gu l->rec l=some ss->F9 ss)
include hrec
theorem Xl{n:Nd}{s:Simple}(hn:okN n)(h:bM rec n=some s):Tf s/\Xk s≠116:=by
 unfold bM at h;simp only at h;split at h
 .split at h
  .rename_i hw;cases h;exact⟨lH (.inr (.inr (.inr ⟨rfl,by rcases hw with e|e|e|e<;>simp[Il,e]⟩))) AF,by simp[Xk,Simple.of]⟩
  .cases h
 split at h
 .cases h
 split at h
 .rename_i hw;cases hr:rec n.kids with
  |none=>rw[hr]at h;cases h
  |some ss=>rw[hr]at h;simp at h;subst h;have:=hrec _ _ ((jl n).1 hn).2 hr;simp only[Tf];exact⟨⟨.inr (.inr (.inr ⟨rfl,by rcases hw with e|e<;>simp[Il,e]⟩)),by omega,this⟩,by simp[Xk]⟩
 split at h
 .rename_i hw;split at h
  .rename_i v hv;cases hp:placeOf v.t with
   |none=>rw[hp]at h;cases h
   |some q=>rw[hp]at h;simp at h;subst h;exact⟨lH (.inr (.inr (.inr ⟨rfl,by simp[Il,hw]⟩))) (Ik hp),by simp[Xk]⟩
  .cases h
 .cases h
theorem aaX(n:Nat):∀(acc:List Simple) (l:List Nd) (all:List Simple) (r:List Nd),l.length<=n->gu l->bZ rec acc l=some (all,r)->∃more,all=acc++more/\KQ more/\rV more:=by
 induction n with
 |zero=>intro acc l all r hl hn h;obtain rfl:l=[]:=List.eq_nil_of_length_eq_zero AF;simp[bZ]at h;obtain⟨rfl,rfl⟩:=h;exact⟨[],by simp,by simp[KQ],by simp[rV]⟩
 |succ n ih=>
  intro acc l all r hl hn h;have none':∃more,acc=acc++more/\KQ more/\rV more:=⟨[],by simp,by simp[KQ],by simp[rV]⟩;have one:∀s,(Tf s/\Xk s≠116)->∃more,acc++[s]=acc++more/\KQ more/\rV more:=fun s hs=>⟨[s],rfl,by simp[KQ,hs.1],by simp[rV,hs.2]⟩;have more:∀s all,(Tf s/\Xk s≠116)->(∃more,all=acc++[s]++more/\KQ more/\rV more)->∃more,all=acc++more/\KQ more/\rV more:=by
   rintro s all hs ⟨m,rfl,h1,h2⟩;refine⟨s::m,by simp,⟨hs.1,h1⟩,fun x hx=>?_⟩;rcases List.mem_cons.1 hx with rfl|hx
   .exact hs.2
   .exact h2 x hx
  match l,hl,hn,h with
  |[],_,hn,h=>simp[bZ]at h;obtain⟨rfl,rfl⟩:=h;exact none'
  |[m],_,hn,h=>
   have hw:=((jl m).1 hn.1);unfold bZ at h;split at h
   .rename_i hk;cases h;exact one _ ⟨lH (.inr (.inl ⟨.inl rfl,Ti hn.1 hk⟩)) AF,by simp[Xk,Simple.of]⟩
   split at h
   .cases h
   split at h
   .split at h
    .cases h
    .rename_i s hs;cases h;exact one _ (Nz (sQ hw.2) hs)
   split at h
   .cases h
   .cases h;exact none'
  |m::q::r',hl,hn,h=>
   simp only[List.length_cons]at hl;have hw:=((jl m).1 hn.1);unfold bZ at h;split at h
   .rename_i hk;exact more _ _ ⟨lH (.inr (.inl ⟨.inl rfl,Ti hn.1 hk⟩)) AF,by simp[Xk]⟩ (ih _ _ _ _ (by simp;omega) hn.2 h)
   split at h
   .split at h
    .rename_i hk;exact more _ _ ⟨lH (.inr (.inl ⟨.inr rfl,Ny hn.2.1 hk⟩)) AF,by simp[Xk]⟩ (ih _ _ _ _ AF hn.2.2 h)
    .cases h
   split at h
   .split at h
    .cases h
    .rename_i s hs;exact more _ _ (Nz (sQ hw.2) hs) (ih _ _ _ _ (by simp;omega) hn.2 h)
   split at h
   .split at h
    .cases h
    .rename_i s hs;exact more _ _ (Xl hrec hn.2.1 hs) (ih _ _ _ _ AF hn.2.2 h)
   .cases h;exact none'
theorem OY{l:List Nd}{all:List Simple}{r:List Nd}(hn:gu l)(h:aZ rec l=some (all,r)):KQ all/\rV all.tail:=by
 unfold aZ at h;have ht:gu (kP l).2/\((kP l).1=[]\/∃s,(kP l).1=[s]/\Tf s):=by
  unfold kP;split
  .exact⟨by simp[gu],.inl rfl⟩
  .split
   .exact⟨hn.2,.inr ⟨_,rfl,lH (.inl rfl) AF⟩⟩
   split
   .exact⟨hn.2,.inr ⟨_,rfl,lH (.inl rfl) AF⟩⟩
   .exact⟨hn,.inl rfl⟩
 obtain⟨more,e,h1,h2⟩:=aaX hrec _ _ _ _ _ (Nat.le_refl _) ht.1 h;subst e;rcases ht.2 with e|⟨s,e,hs⟩
 .rw[e,List.nil_append];exact⟨h1,fun x hx=>h2 x (List.mem_of_mem_tail hx)⟩
 .rw[e];exact⟨⟨hs,h1⟩,h2⟩
variable (hq : ∀ l ss,gu l->rec l=some ss->CO ss)
include hq
theorem FP:∀(f b:Nat) (l:List Nd) (ss:List Step),gu l->bD rec f b l=some ss->∃all r,ss=(b,all)::r/\all≠[]/\rV all.tail/\KQ all/\sfR r
 |0,_,_,_,_,h=>by simp[bD]at h
 |f+1,b,l,ss,hn,h=>by
  unfold bD at h;split at h
  .cases h
  .rename_i all r hc;have h1:=OY hrec hn hc;split at h
   .cases h
   .rename_i hne;split at h
    .cases h;exact⟨_,_,rfl,hne,h1.2,h1.1,by simp[sfR]⟩
    .split at h
     .cases h
     .rename_i c r' hcb;have hok:gu r:=(CQ hq hn hc).2;have h2:=QK hok hcb;have hc2:=QL hcb;cases hx:bD rec f c r' with
      |none=>rw[hx]at h;cases h
      |some x=>rw[hx]at h;simp at h;subst h;obtain⟨all2,r2,rfl,h3,h3',h4,h5⟩:=FP f c r' x h2.2 hx;exact⟨_,_,rfl,hne,h1.2,h1.1,by simp only[sfR];exact⟨hc2,h3,h3',h4,h5⟩⟩
theorem Tj:∀(ps:List (List Nd)) (ss:bY),(∀p∈ps,gu p)->fZ rec ps=some ss->F9 ss
 |[],ss,_,h=>by simp[fZ]at h;subst h;simp[F9]
 |p::r,ss,hp,h=>by
  unfold fZ at h;split at h
  .cases h
  .rename_i s hs;cases hx:fZ rec r with
   |none=>rw[hx]at h;cases h
   |some x=>rw[hx]at h;simp at h;subst h;obtain⟨all,r3,rfl,h3,h3',h4,h5⟩:=FP hrec hq _ _ _ _ (sQ (hp p (by simp))) hs;simp only[F9,sfC];exact⟨⟨trivial,h3,h3',h4,h5⟩,Tj r x (fun q hq=>hp q (by simp[hq])) hx⟩
theorem Tm{l:List Nd}{ss:bY}(hn:gu l)(h:oz rec l=some ss):F9 ss:=by
 unfold oz at h;split at h
 .cases h
 .exact Tj hrec hq _ _ (CJ l [] [] (by simp) (by simp[gu]) hn) h
end
theorem Y6:∀(f:Nat) (l:List Nd) (ss:bY),gu l->lM f l=some ss->F9 ss
 |0,l,ss,hn,h=>Tm (rec:=fun _=>none) (fun _ _ _ h=>by cases h) (fun _ _ _ h=>by cases h) hn h
 |f+1,l,ss,hn,h=>Tm (rec:=lM f) (fun l ss h1 h2=>Y6 f l ss h1 h2) (fun l ss h1 h2=>Gw f l ss h1 h2) hn h
end
def Iy(b:Nat):List Pc:=if b=32 then [.blank] else if b=62\/b=43\/b=126 then [.blank,.sign (UInt8.ofNat b),.blank] else []
def CU(name how value:BY):List Pc:=if how=aA then [.sign 91,.ident name,.sign 93] else .sign 91 :: .ident name::(how.data.toList.map Pc.sign++[.text value,.sign 93])
def yA[bV](place:Nat):Pc:=if place=0 then .ident sZ else if place=1 then .ident l7 else .num (H7 (place-2))
mutual
def pcS[bV]:Simple->List Pc
 |.mk kind name how value list place=>
  if kind=116 then(if name=aA then [.sign 42] else [.ident name])
  else if kind=35 then [.hash name]
  else if kind=46 then [.sign 46,.ident name]
  else if kind=91 then CU name how value
  else if name=nD\/name=DY then .sign 58 :: .func name::(Vh [] list++[.sign 41])
  else if name=nG then [.sign 58,.func name,yA place,.sign 41]
  else [.sign 58,.ident name]
def OZ[bV]:List Simple->List Pc
 |[]=>[]
 |s::r=>pcS s++OZ r
def Xm[bV]:Nat×List Simple->List Pc
 |(b,all)=>Iy b++OZ all
def D8[bV]:List (Nat×List Simple)->List Pc
 |[]=>[]
 |t::r=>Xm t++D8 r
def Vh[bV](ahead:List Pc):List (List (Nat×List Simple))->List Pc
 |[]=>[]
 |c::r=>ahead++(D8 c++uH ahead r)
def uH[bV](ahead:List Pc):List (List (Nat×List Simple))->List Pc
 |[]=>[]
 |c::r=>.sign 44::(ahead++(D8 c++uH ahead r))
end
theorem Xn(c:UInt8):(b1 c).data.toList=[c]:=rfl
theorem Tn{b:Nat}(h:b=0\/Io b):(tV b).data.toList=flat (Iy b):=by rcases h with rfl|rfl|rfl|rfl|rfl<;>rfl
theorem adH{name how value:BY}:(zN name how value).data.toList=flat (CU name how value):=by
 unfold zN CU;split
 .simp[flat,Pc.bytes,pR,b1]
 .have hm:∀l:List UInt8,flat (l.map Pc.sign++[.text value,.sign 93])=l++(yw value++[93]):=by
   intro l;induction l with
   |nil=>simp[flat,Pc.bytes]
   |cons c r ih=>simp only[List.map_cons,List.cons_append,flat,Pc.bytes,ih];rfl
  simp only[kV,pR,YW,Xn,flat,hm,Pc.bytes]
theorem Tq{nm:BY}(h:Il nm):nm.data.toList=gZ nm/\0<nm.size/\small (vZ nm)≠url/\vZ nm=nm/\small nm=nm:=by rcases h with rfl|rfl|rfl|rfl|rfl|rfl|rfl<;>decide
theorem adI[bV](n:Nat):((if n=0 then sZ else if n=1 then l7 else H7 (n-2)):BY).data.toList=(yA n).bytes:=by
 unfold yA;split
 .decide
 .split
  .decide
  .rfl
mutual
theorem agI[bV]:∀(s:Simple),Tf s->(Am s).data.toList=flat (pcS s)
 |.mk kind name how value list place,h=>by
  simp only[Tf]at h;unfold Am pcS;split
  .split
   .rfl
   .simp[flat,Pc.bytes,pR]
  .rename_i k1;split
   .simp[flat,Pc.bytes,pR,b1]
   .rename_i k2;split
    .simp[flat,Pc.bytes,pR,b1]
    .rename_i k3;split
     .exact adH
     .rename_i k4;have hs:Il name:=by
       rcases h.1 with h|h|h|h
       .exact absurd h k1
       .rcases h.1 with h|h
        .exact absurd h k2
        .exact absurd h k3
       .exact absurd h.1 k4
       .exact h.2
      have hn:=(Tq hs).1;split
      .have ih:=Tt aA [] rfl list h.2.2;simp only[kV,Xn,ih,flat,aN,Pc.bytes,hn];simp
      .split
       .simp only[kV,Xn,adI,flat,Pc.bytes,hn];simp
       .simp only[kV,Xn,flat,Pc.bytes,hn];simp
theorem O8[bV]:∀(l:List Simple),KQ l->(vw l).data.toList=flat (OZ l)
 |[],_=>by unfold vw OZ;rfl
 |s::r,h=>by simp only[KQ]at h;unfold vw OZ;rw[kV,aN,agI s h.1,O8 r h.2]
theorem Tv[bV]:∀(l:List (Nat×List Simple)),sfR l->(dW l).data.toList=flat (D8 l)
 |[],_=>by unfold dW D8;rfl
 |(b,all)::r,h=>by simp only[sfR]at h;unfold dW D8 ab9 Xm;rw[kV,aN,kV,aN,Tn (.inr h.1),O8 all h.2.2.2.1,Tv r h.2.2.2.2]
theorem Y7[bV]:∀(l:List (Nat×List Simple)),sfC l->(dW l).data.toList=flat (D8 l)
 |[],h=>by simp only[sfC]at h
 |(b,all)::r,h=>by simp only[sfC]at h;unfold dW D8 ab9 Xm;rw[kV,aN,kV,aN,Tn (.inl h.1),O8 all h.2.2.2.1,Tv r h.2.2.2.2]
theorem Tt[bV](ahead:BY)(pa:List Pc)(ha:ahead.data.toList=flat pa):∀(l:List (List (Nat×List Simple))),F9 l->(jV ahead l).data.toList=flat (Vh pa l)
 |[],_=>by unfold jV Vh;rfl
 |c::r,h=>by simp only[F9]at h;unfold jV Vh;rw[kV,kV,aN,aN,ha,Y7 c h.1,Tz ahead pa ha r h.2]
theorem Tz[bV](ahead:BY)(pa:List Pc)(ha:ahead.data.toList=flat pa):∀(l:List (List (Nat×List Simple))),F9 l->(qC ahead l).data.toList=flat (uH pa l)
 |[],_=>by unfold qC uH;rfl
 |c::r,h=>by simp only[F9]at h;unfold qC uH;rw[kV,kV,kV];show _=[44]++flat (pa++(D8 c++uH pa r));rw[aN,aN,ha,Y7 c h.1,Tz ahead pa ha r h.2];rfl
end
def iw(c:Int):Prop:=lX c=false/\c≠92/\c≠40/\c≠62
theorem nV{w:BY}{r:List UInt8}(h:iw (jy r)):(Pc.ident w).stop r:=⟨⟨h.1,h.2.1⟩,h.2.2.1,h.2.2.2⟩
theorem fK{c:UInt8}{l:List Pc}{r:List UInt8}(h:c∈lT/\c≠43/\c≠45/\c≠46/\c≠47)(hl:Good l r):Good (.sign c::l) r:=⟨h.1,pF _ h.2,hl⟩
theorem Xo{x:BY}(h0:0<x.size)(h:∀c∈x.data.toList,fG (c.toNat:Int)=true):LX x:=by
 intro t j r hat hst;have hl:x.size=x.data.toList.length:=rfl;have hd:∀d,d<x.size->fG (pk t (j+d))=true:=fun d hd=>by rw[hat.at (by omega)];exact h _ (List.getElem_mem _)
 have he:pk t (j+x.size)=jy r:=hat.app.hd;have hdig:mW t j=j+x.size:=SL AF (fun y h1 h2=>by rw[show y=j+(y-j) by omega];exact hd _ AF) (by rw[he];exact hst.1);have h00:fG (pk t j)=true:=by have:=hd 0 h0;simpa using this
 have hs:mX t j=j:=by unfold mX;rw[if_neg (by rw[(GH h00).2.2.2.2];simp)]
 refine⟨?_,?_⟩
 .unfold iO;rw[hs,h00];rfl
 .unfold bT;rw[hs,hdig];have hf:jL t (j+x.size)=j+x.size:=by
   unfold jL;rw[if_neg];rw[he];exact fun hh=>hst.2.1 hh.1
  rw[hf];unfold iq;rw[if_neg];rw[he];exact fun hh=>hh.elim hst.2.2.1 hst.2.2.2
theorem agJ[bV]{n:Nat}(h:n<=999):LX (H7 n):=Xo ((default:ZW).pos n AF) ((default:ZW).mW n AF)
theorem aaY{how:BY}(h:wL how)(hn:how≠aA):(∀c∈how.data.toList,c∈lT/\c≠43/\c≠45/\c≠46/\c≠47)/\∀X,iw (jy (how.data.toList++X)):=by
 rcases h with rfl|rfl|rfl|rfl|rfl|rfl
 .exact absurd rfl hn
 .exact⟨by decide,fun X=>show iw 61 by unfold iw;decide⟩
 .exact⟨by decide,fun X=>show iw 126 by unfold iw;decide⟩
 .exact⟨by decide,fun X=>show iw 94 by unfold iw;decide⟩
 .exact⟨by decide,fun X=>show iw 36 by unfold iw;decide⟩
 .exact⟨by decide,fun X=>show iw 42 by unfold iw;decide⟩
theorem JE:∀(l:List UInt8) (b:List Pc) (r:List UInt8),(∀c∈l,c∈lT/\c≠43/\c≠45/\c≠46/\c≠47)->Good b r->Good (l.map Pc.sign++b) r
 |[],_,_,_,h=>h
 |c::l,b,r,h,hb=>fK (h c (by simp)) (JE l b r (fun x hx=>h x (by simp[hx])) hb)
theorem JF:∀(l:List UInt8) (b:List Pc),flat (l.map Pc.sign++b)=l++flat b
 |[],_=>rfl
 |c::l,b=>by show [c]++flat (l.map Pc.sign++b)=c::l++flat b;rw[JF l b];rfl
theorem aaZ{name how value:BY}(h0:0<name.size)(hh:wL how)(r:List UInt8):Good (CU name how value) r:=by
 unfold CU;split
 .exact fK (by decide) ⟨h0,nV (show iw 93 by unfold iw;decide),fK (by decide) trivial⟩
 .rename_i hn;have hs:=aaY hh hn;refine fK (by decide) ⟨h0,nV ?_,JE _ _ _ hs.1 ⟨trivial,trivial,fK (by decide) trivial⟩⟩;rw[JF,List.append_assoc];exact hs.2 _
theorem Xp[bV]{s:Simple}(h:Tf s)(X:List UInt8):aO (jy (flat (pcS s)++X))=false/\(Xk s≠116->iw (jy (flat (pcS s)++X))):=by
 obtain⟨kind,name,how,value,list,place⟩:=s;simp only[Tf]at h;unfold pcS Xk;split
 .rename_i k;refine⟨?_,fun h=>absurd k h⟩;split
  .rfl
  .rename_i hn;rw[nU];refine(Dx (w:=name) ?_ X).1;rcases Nat.eq_zero_or_pos name.size with e|e
   .exact absurd (by apply ByteArray.ext;apply Array.toList_inj.1;exact List.eq_nil_of_length_eq_zero e) hn
   .exact e
 .split
  .exact⟨rfl,fun _=>show iw 35 by unfold iw;decide⟩
  .split
   .exact⟨rfl,fun _=>show iw 46 by unfold iw;decide⟩
   .split
    .unfold CU;split<;>exact⟨rfl,fun _=>show iw 91 by unfold iw;decide⟩
    .split
     .exact⟨rfl,fun _=>show iw 58 by unfold iw;decide⟩
     .split<;>exact⟨rfl,fun _=>show iw 58 by unfold iw;decide⟩
mutual
theorem alD[bV]:∀(s:Simple) (r:List UInt8),Tf s->iw (jy r)->Good (pcS s) r
 |.mk kind name how value list place,r,h,hr=>by
  simp only[Tf]at h;unfold pcS;split
  .split
   .exact fK (by decide) trivial
   .rename_i hn;refine⟨?_,nV hr,trivial⟩;rcases Nat.eq_zero_or_pos name.size with e|e
    .exact absurd (by apply ByteArray.ext;apply Array.toList_inj.1;exact List.eq_nil_of_length_eq_zero e) hn
    .exact e
  .rename_i k1;have hk:=h.1;split
   .rename_i k2;refine⟨?_,⟨hr.1,hr.2.1⟩,trivial⟩;rcases hk with h|h|h|h
    .exact absurd h k1
    .exact h.2
    .omega
    .omega
   .rename_i k2;split
    .rename_i k3;have h0:0<name.size:=by
      rcases hk with h|h|h|h
      .exact absurd h k1
      .exact h.2
      .omega
      .omega
     refine⟨show(46:UInt8)∈lT by decide,⟨fun e=>absurd e (by decide),fun _=>?_,fun e=>absurd e (by decide),fun e=>absurd e (by decide)⟩,⟨h0,nV hr,trivial⟩⟩;rw[nU];exact(Dx h0 _).2.2
    .rename_i k3;split
     .rename_i k4;have h0:0<name.size/\wL how:=by
       rcases hk with h|h|h|h
       .exact absurd h k1
       .omega
       .exact h.2
       .omega
      exact aaZ h0.1 h0.2 r
     .rename_i k4;have hs:Il name:=by
       rcases hk with h|h|h|h
       .exact absurd h k1
       .omega
       .exact absurd h.1 k4
       .exact h.2
      have hn:=Tq hs;split
      .have hg:=air [] (fun _ _=>trivial) (.inl rfl) list (flat [.sign 41]++r) h.2.2 (show iw 41 by unfold iw;decide);exact fK (by decide) ⟨hn.2.1,fun hu=>absurd hu hn.2.2.1,hg.append (fK (by decide) trivial)⟩
      .split
       .refine fK (by decide) ⟨hn.2.1,fun hu=>absurd hu hn.2.2.1,?_⟩;have hl:Good [yA place] (flat [.sign 41]++r):=by
         unfold yA;split
         .exact⟨show 0<sZ.size by decide,nV (show iw 41 by unfold iw;decide),trivial⟩
         .split
          .exact⟨show 0<l7.size by decide,nV (show iw 41 by unfold iw;decide),trivial⟩
          .exact⟨agJ AF,rU (by simp) (by simp) (by simp) rfl,trivial⟩
        exact hl.append (b:=[.sign 41]) (fK (by decide) trivial)
       .exact fK (by decide) ⟨hn.2.1,nV hr,trivial⟩
theorem adJ[bV]:∀(l:List Simple) (r:List UInt8),KQ l->rV l.tail->iw (jy r)->Good (OZ l) r/\(rV l->iw (jy (flat (OZ l)++r)))
 |[],r,_,_,hr=>by unfold OZ;exact⟨trivial,fun _=>hr⟩
 |s::l,r,h,ht,hr=>by simp only[KQ]at h;have ht':rV l:=ht;have ih:=adJ l r h.2 (fun x hx=>ht' x (List.mem_of_mem_tail hx)) hr;have h1:=alD s (flat (OZ l)++r) h.1 (ih.2 ht');unfold OZ;refine⟨h1.append ih.1,fun hn=>?_⟩;rw[aN,List.append_assoc];exact(Xp h.1 _).2 (hn s (by simp))
theorem ais[bV]:∀(l:List (Nat×List Simple)) (r:List UInt8),sfR l->iw (jy r)->Good (D8 l) r/\iw (jy (flat (D8 l)++r))
 |[],r,_,hr=>by unfold D8;exact⟨trivial,hr⟩
 |(b,all)::l,r,h,hr=>by
  simp only[sfR]at h;have ih:=ais l r h.2.2.2.2 hr;have hA:=(adJ all (flat (D8 l)++r) h.2.2.2.1 h.2.2.1 ih.2).1;have hF:aO (jy (flat (OZ all)++(flat (D8 l)++r)))=false:=by
   match all,h.2.1,h.2.2.2.1 with
   |s::q,_,hs=>simp only[KQ]at hs;unfold OZ;rw[aN,List.append_assoc];exact(Xp hs.1 _).1
  unfold D8 Xm;have hC:Good (Iy b) (flat (OZ all)++(flat (D8 l)++r)):=by
   rcases h.1 with rfl|rfl|rfl|rfl
   .exact⟨trivial,hF,trivial⟩
   .exact⟨trivial,show aO 62=false by decide,show(62:UInt8)∈lT by decide,pF _ (by decide),trivial,hF,trivial⟩
   .exact⟨trivial,show aO 43=false by decide,show(43:UInt8)∈lT by decide,rU (by simp) (by simp) (by simp) rfl,trivial,hF,trivial⟩
   .exact⟨trivial,show aO 126=false by decide,show(126:UInt8)∈lT by decide,pF _ (by decide),trivial,hF,trivial⟩
  refine⟨(hC.append hA).append ih.1,?_⟩;rw[aN,aN,List.append_assoc,List.append_assoc];rcases h.1 with rfl|rfl|rfl|rfl<;>exact(show iw 32 by unfold iw;decide)
theorem ait[bV]:∀(l:List (Nat×List Simple)) (r:List UInt8),sfC l->iw (jy r)->Good (D8 l) r/\aO (jy (flat (D8 l)++r))=false
 |[],_,h,_=>by simp only[sfC]at h
 |(b,all)::l,r,h,hr=>by
  simp only[sfC]at h;have ih:=ais l r h.2.2.2.2 hr;have hA:=(adJ all (flat (D8 l)++r) h.2.2.2.1 h.2.2.1 ih.2).1;have hF:aO (jy (flat (OZ all)++(flat (D8 l)++r)))=false:=by
   match all,h.2.1,h.2.2.2.1 with
   |s::q,_,hs=>simp only[KQ]at hs;unfold OZ;rw[aN,List.append_assoc];exact(Xp hs.1 _).1
  have hb:Iy b=[]:=by rw[h.1];rfl
  unfold D8 Xm;rw[hb,List.nil_append];refine⟨hA.append ih.1,?_⟩;rw[aN,List.append_assoc];exact hF
theorem air[bV](pa:List Pc)(hp:∀X,aO (jy X)=false->Good pa X)(hq:pa=[]\/∀X,jy (flat pa++X)=46):∀(l:List (List (Nat×List Simple))) (r:List UInt8),F9 l->iw (jy r)->Good (Vh pa l) r
 |[],_,_,_=>by unfold Vh;trivial
 |c::l,r,h,hr=>by simp only[F9]at h;have hT:=adK pa hp hq l r h.2 hr;have hC:=ait c (flat (uH pa l)++r) h.1 hT.2;unfold Vh;refine Good.append ?_ (hC.1.append hT.1);rw[aN,List.append_assoc];exact hp _ hC.2
theorem adK[bV](pa:List Pc)(hp:∀X,aO (jy X)=false->Good pa X)(hq:pa=[]\/∀X,jy (flat pa++X)=46):∀(l:List (List (Nat×List Simple))) (r:List UInt8),F9 l->iw (jy r)->Good (uH pa l) r/\iw (jy (flat (uH pa l)++r))
 |[],r,_,hr=>by unfold uH;exact⟨trivial,hr⟩
 |c::l,r,h,hr=>by simp only[F9]at h;have hT:=adK pa hp hq l r h.2 hr;have hC:=ait c (flat (uH pa l)++r) h.1 hT.2;unfold uH;refine⟨fK (by decide) (Good.append ?_ (hC.1.append hT.1)),show iw 44 by unfold iw;decide⟩;rw[aN,List.append_assoc];exact hp _ hC.2
end
theorem aa0{s:BY}(h:gK s=true):∀c∈s.data.toList,(97<=c.toNat/\c.toNat<=122)\/c.toNat=45:=by
 intro c hc;unfold gK at h;simp only[Bool.and_eq_true,List.all_eq_true]at h;have:=h.1.1 c hc;unfold jh at this;simp at this;rcases this with h|h
 .exact .inl h
 .rw[h];exact .inr rfl
theorem O9{l:List BY}{x:BY}(h:l.contains x=true):x∈l:=by
 induction l with
 |nil=>cases h
 |cons a l ih=>
  rw[List.contains_cons,Bool.or_eq_true]at h;rcases h with h|h
  .have e:x=a:=by
    cases x;cases a;exact congrArg ByteArray.mk (eq_of_beq (show(_:Array UInt8)==_ from h))
   rw[e];simp
  .exact List.mem_cons_of_mem _ (ih h)
theorem adL{w:BY}(h:∀c∈w.data.toList,c.toNat≠0):vZ w=w:=by
 apply ByteArray.ext
 apply Array.toList_inj.1
 show(w.data.toList.map zq).toArray.toList=_;rw[List.toList_toArray];exact(List.map_congr_left (fun c hc=>by unfold zq;rw[if_neg (h c hc)];rfl)).trans (List.map_id _)
theorem TA{l:List BY}{w:BY}(hl:l.all gK=true)(h:l.contains (small w)=true):small (vZ (small w))=small w:=by
 have hp:gK (small w)=true:=List.all_eq_true.1 hl _ (O9 h);have hb:=aa0 hp;rw[adL (fun c hc=>by have:=hb c hc;omega)];apply ByteArray.ext
 apply Array.toList_inj.1
 show((small w).data.toList.map jr).toArray.toList=_;rw[List.toList_toArray];refine(List.map_congr_left (fun c hc=>?_)).trans (List.map_id _);have:=hb c hc;unfold jr;rw[if_neg]
 .exact rfl
 .intro hh;have h1:(65:UInt8).toNat<=c.toNat:=UInt8.le_iff_toNat_le.1 hh.1;have h2:c.toNat<=(90:UInt8).toNat:=UInt8.le_iff_toNat_le.1 hh.2;have e1:(65:UInt8).toNat=65:=rfl;have e2:(90:UInt8).toNat=90:=rfl;omega
def adM(c:Int):Prop:=fG c=true\/c=43\/c=45\/c=46\/c=101\/c=69
theorem Xq{s:BY}{i x:Nat}(h1:i<=x)(h2:x<bT s i):adM (pk s x):=by
 unfold bT at h2;have hsg:∀a y,a<=y->y<mX s a->adM (pk s y):=fun a y ha hy=>by
  unfold mX at hy;split at hy
  .rename_i hs;have e:y=a:=by omega
   unfold ou at hs;simp at hs;rw[e];rcases hs with h|h<;>rw[h]
   .exact .inr (.inl rfl)
   .exact .inr (.inr (.inl rfl))
  .omega
 have hfr:∀a y,a<=y->y<jL s a->adM (pk s y):=fun a y ha hy=>by
  unfold jL at hy;split at hy
  .rename_i hf;rcases Nat.lt_or_ge a y with h|h
   .exact .inl (Dv h hy)
   .rw[show y=a by omega,hf.1];exact .inr (.inr (.inr (.inl rfl)))
  .omega
 have hex:∀a y,a<=y->y<iq s a->adM (pk s y):=fun a y ha hy=>by
  unfold iq at hy;split at hy
  .rename_i he;split at hy
   .rcases Nat.lt_or_ge a y with h|h
    .rcases Nat.lt_or_ge y (mX s (a+1))with h3|h3
     .exact hsg _ _ h h3
     .exact .inl (Dv h3 hy)
    .rw[show y=a by omega];rcases he with e|e<;>rw[e]
     .exact .inr (.inr (.inr (.inr (.inl rfl))))
     .exact .inr (.inr (.inr (.inr (.inr rfl))))
   .omega
  .omega
 rcases Nat.lt_or_ge x (mX s i)with h|h
 .exact hsg _ _ h1 h
 .rcases Nat.lt_or_ge x (mW s (mX s i))with h3|h3
  .exact .inl (Dv h h3)
  .rcases Nat.lt_or_ge x (jL s (mW s (mX s i)))with h4|h4
   .exact hfr _ _ h3 h4
   .exact hex _ _ h4 h2
theorem EL{w:BY}(h:LX w):∀c∈w.data.toList,kH c:=by intro c hc;obtain⟨d,hd,e⟩:=List.getElem_of_mem hc;have hat:At w 0 (w.data.toList++[]):=⟨Nat.zero_le _,by simp⟩;have he:=(h w 0 [] hat (show nT (-1) by unfold nT;decide)).2;have hl:w.size=w.data.toList.length:=rfl;have:=Xq (s:=w) (i:=0) (x:=0+d) AF AF;rw[hat.at hd,e]at this;unfold adM fG at this;simp at this;unfold kH;omega
theorem agK{q:Pc}(h:q.ok)(h62:q≠.sign 62):∀c∈q.bytes,kH c:=by
 match q,h,h62 with
 |.blank,_,_=>intro c hc;rw[List.mem_singleton.1 hc];unfold kH;decide
 |.text w,_,_=>exact Xb w
 |.hash w,_,_=>
  intro c hc;rcases List.mem_cons.1 hc with rfl|hc
  .unfold kH;decide
  .exact rP w c hc
 |.num w,h,_=>exact EL h
 |.pct w,h,_=>
  intro c hc;rcases List.mem_append.1 hc with hc|hc
  .exact EL h c hc
  .rw[List.mem_singleton.1 hc];unfold kH;decide
 |.dim w u,h,_=>
  intro c hc;rcases List.mem_append.1 hc with hc|hc
  .exact EL h.1 c hc
  .exact Xa u c hc
 |.at_ w,_,_=>
  intro c hc;rcases List.mem_cons.1 hc with rfl|hc
  .unfold kH;decide
  .exact rP w c hc
 |.ident w,_,_=>exact rP w
 |.func w,_,_=>
  intro c hc;rcases List.mem_append.1 hc with hc|hc
  .exact rP w c hc
  .rw[List.mem_singleton.1 hc];unfold kH;decide
 |.sign c,h,h62=>
  intro x hx;rw[List.mem_singleton.1 hx];have h2:c≠62:=fun e=>h62 (by rw[e]);have:∀c∈lT,c≠62->kH c:=by unfold kH;decide
  exact this c h h2
 |.com,_,_=>
  intro c hc;have:∀c∈([47,42,42,47]:List UInt8),kH c:=by unfold kH;decide
  exact this c hc
mutual
theorem alE(p:aF):∀(n:Nd),gN n->uN n->Qz (fun t=>!oI p t) n=false->vN p n
 |.mk t k,hg,hu,hh=>by simp only[gN]at hg;simp only[uN]at hu;unfold Qz at hh;rw[Bool.or_eq_false_iff]at hh;simp only[vN];have hk:=hg.2.1;unfold Qj at hk;simp at hk;exact⟨⟨hg.1,hk,by simpa using hh.1,hu.1.1,hu.1.2,hg.2.2.1⟩,Xr p k hg.2.2.2 hu.2 hh.2⟩
theorem Xr(p:aF):∀(l:List Nd),gL l->uL l->jg (fun t=>!oI p t) l=false->vL p l
 |[],_,_,_=>by simp[vL]
 |n::r,hg,hu,hh=>by simp only[gL]at hg;simp only[uL]at hu;unfold jg at hh;rw[Bool.or_eq_false_iff]at hh;exact⟨alE p n hg.1 hu.1 hh.1,Xr p r hg.2 hu.2 hh.2⟩
end
theorem aiu{p:aF}{l:List Nd}(hg:gL l)(hu:uL l)(hh:eH p l=true):vL p l:=Xr p l hg hu (by unfold eH at hh;simpa using hh)
theorem Dy:∀(f:Nat) (l:List Nd),gL l->∀d∈fF f l,0<d.prop.size
 |0,l,_=>by simp[fF]
 |f+1,[],_=>by simp[fF]
 |f+1,n::r,hg=>by
  have hr:gL r:=hg.2;unfold fF;split
  .exact Dy f r hr
  split
  .exact Dy f _ (qw hr fun m hm=>nR _ _ _ hm)
  .have h2:=Dy f (bG aS (n::r)).2.2 (qw hg fun m hm=>nR _ _ _ hm);simp only;split
   .exact h2
   .rename_i d0 hd0;intro d hd;rcases List.mem_cons.1 hd with e|e
    .subst e;unfold iI at hd0;split at hd0
     .cases hd0
     .rename_i m q hq;split at hd0
      .cases hd0
      .rename_i hk;split at hd0
       .cases hd0
       .split at hd0
        .cases hd0;have hm:gN m:=(yh _).1 hg m (yj _ _ _ (by rw[hq];simp));rw[Nq];exact((Ba m).1 hm).1.named (.inr (.inr (.inr (by simpa using hk))))
        .cases hd0
    .exact h2 d e
theorem qN(sh:Bool):∀(f:Nat) (l:List Nd),gL l->∀r∈fM f sh l,∀w,r.at_=some w->0<w.size
 |0,l,_=>by simp[fM]
 |f+1,[],_=>by simp[fM]
 |f+1,n::r,hg=>by
  have hr:gL r:=hg.2;unfold fM;split
  .exact qN sh f r hr
  split
  .rename_i hk;intro d hd w hw;simp only at hd;rcases List.mem_cons.1 hd with e|e
   .subst e;cases hw;exact((Ba n).1 hg.1).1.named (.inr (.inl hk))
   .exact qN sh f _ (qw hr fun m hm=>nR _ _ _ hm) d e w hw
  .simp only;split
   .simp
   .intro d hd w hw;rcases List.mem_cons.1 hd with e|e
    .subst e;cases hw
    .exact qN sh f _ (qw hg fun m hm=>nR _ _ _ hm) d e w hw
def ajC:List UInt8->Prop:=fun _=>True
theorem agL{X:List UInt8}(h:LZ X):iw (jy X):=by have:=zn h.1;exact⟨this.1,this.2.1,this.2.2.1,this.2.2.2.1⟩
theorem adN:ZX=b1 33++dP jw:=by decide
theorem adO{w:BY}(h:w.data.toList.all jh=true):gZ w=w.data.toList:=by
 have hl:∀(l:List UInt8) (i:Nat),(∀c∈l,jh c=true)->ny (dZ w) i l=l:=by
  intro l;induction l with
  |nil=>intro i _;rfl
  |cons c r ih=>
   intro i hc;have h1:=hc c Ab;unfold jh at h1;simp at h1;have hp:dZ w i c=true:=by unfold dZ;rw[if_neg (by unfold oV;simp;omega),if_neg (by intro e;rw[e]at h1;revert h1;decide)];unfold oU;simp;omega
   unfold ny;rw[if_pos hp,ih (i+1) fun x hx=>hc x (by simp[hx])];rfl
 exact hl _ _ (List.all_eq_true.1 h)
def rW(p:aF):List Pc:=if p.root=aA then [] else [.sign 46,.ident p.root,.blank]
theorem adP{p:aF}(h:p.root.data.toList.all jh=true):(Vw p).data.toList=flat (rW p):=by
 unfold Vw rW;split
 .rfl
 .rw[kV,kV];simp[flat,Pc.bytes,adO h,b1]
theorem aa1{w:BY}(h:w≠aA):0<w.size:=by
 rcases Nat.eq_zero_or_pos w.size with e|e
 .exact absurd (by apply ByteArray.ext;apply Array.toList_inj.1;exact List.eq_nil_of_length_eq_zero e) h
 .exact e
theorem Xt(p:aF)(X:List UInt8)(hX:aO (jy X)=false):Good (rW p) X:=by
 unfold rW;split
 .trivial
 .rename_i h;have h0:=aa1 h;refine⟨show(46:UInt8)∈lT by decide,⟨fun e=>absurd e (by decide),fun _=>?_,fun e=>absurd e (by decide),fun e=>absurd e (by decide)⟩,h0,nV (show iw 32 by unfold iw;decide),trivial,hX,trivial⟩;rw[qM];exact(Dx h0 _).2.2
theorem Y8:∀(l:List Nd) (n:Nd) (r:List Nd),aH l=n::r->iH n=false
 |m::l,n,r,h=>by
  unfold aH at h;split at h
  .exact Y8 l n r h
  .rename_i hb;cases h;simpa using hb
theorem drop_suffix:∀(l:List Nd),∃a,l=a++aH l
 |[]=>⟨[],rfl⟩
 |m::l=>by
  unfold aH;split
  .obtain⟨a,ha⟩:=drop_suffix l;exact⟨m::a,by rw[List.cons_append,<-ha]⟩
  .exact⟨[],rfl⟩
theorem agM{l r:List Nd}{n:Nd}(h:bare l=n::r):n.t.kind≠1:=by
 unfold bare lJ at h;obtain⟨a,ha⟩:=drop_suffix (aH l).reverse;have h1:aH l=(aH (aH l).reverse).reverse++a.reverse:=by have:=congrArg List.reverse ha;rwa[List.reverse_reverse,List.reverse_append]at this
 rw[h]at h1;have:=Y8 l n _ h1;unfold iH at this;simpa using this
theorem Xu{sh:Bool}{l b:List Nd}{r:Rule}(hr:r∈rules sh l)(hu:uL l)(hb:r.body=some b):uL b:=by obtain⟨n,h1,_,rfl⟩:=((pO sh l).2 r hr).body b hb;exact((ajz n).1 ((OU l).1 hu n h1)).2
theorem aa2{p:aF}(h:qp p=true):p.aJ.all gK=true/\p.ats.all gK=true/\p.root.data.toList.all jh=true:=by unfold qp at h;simp only[Bool.and_eq_true]at h;exact⟨h.1.2.2,h.2.2,h.1.1.1.1⟩
end Go.Proofs.YtlliliddljkbfaaGreat.Sp
namespace Go.Proofs.YtlliliddljkbfaaGreat
open Go.Proofs.Tryz (prog)
open Go.RowKit Sp
def JG(t:Nat->Int)(w:WD):Prop:=∀k,k<20->w.cell? ⟨3,k,none⟩=some (.int .u64 (t k))
theorem JG.lt{t:Nat->Int}{w:WD}(h:JG t w):3<w.heap.size:=World.block_lt_of_cell? w _ (h 0 oo)
theorem JG.below{t:Nat->Int}{w w':WD}(h:JG t w)(hb:Below w.heap.size w w'):JG t w':=fun k hk=>(World.cell?_of_block (w:=w) (hb.block 3 h.lt)).trans (h k hk)
def adR(u:Nat):Nat:=Lib.l10 (Lib.bitLen u)
theorem TB:∀u:Fin 1000,100<=u.val->(adR u.val=2\/adR u.val=3)/\Lib.bitLen u.val<=64:=by decide +kernel
def ndT(t:Nat->Int)(u:Nat):Nat:=adR u+if t (adR u)<=(u:Int) then 1 else 0
theorem adS{t:Nat->Int}{u:Nat}(h1:100<=u)(h2:u<=999):2<=ndT t u/\ndT t u<=4:=by have:=(TB ⟨u,oo⟩ h1).1;unfold ndT;simp only at this;split<;>omega
theorem TD(t:Nat->Int)(u:Nat)(h1:100<=u)(h2:u<=999)(w:WD)(ht:JG t w):
  Calls prog 380 #[.int .u64 (u:Int)] w fun e w'=>e=.returned (.int .i64 (ndT t u:Nat))/\w'=w:=by
 have hl:=TB ⟨u,oo⟩ h1;simp only at hl;obtain⟨m,Hm⟩:=Nm (adR u);have hm:m=2\/m=3:=by rw[<-Hm.o];exact hl.1
 have hb:=hl.2;clear hl;have hc:=ht m oo;have HT:=hid ht;clear ht;go_in;go_wp2_with fail;refine pmb (Tryz.bits_Len64 (u:Int) w oo oo) fun wq hw=>?_;rw[hw,Int.toNat_natCast];clear hw;go_wp2_with fail;refine pmb (Tryz.internal_strconv_log10Pow2 (Lib.bitLen u) hb w) fun wq hw=>?_;rw[hw,show Lib.l10 (Lib.bitLen u)=m from Hm.o];clear hw;have anz:(m:Int)<20:=oo;obtain⟨x,Hx⟩:=Nm (t m);rw[Hx.o]at hc;by_cases hx:x<=(u:Int)
 all_goals
  have HN:Hid (ndT t u=m+(if x<=(u:Int) then 1 else 0)):=by show _=_;unfold ndT;rw[Hm.o,Hx.o]
  go_wp2_with fail;refine pmb (Tryz.internal_strconv_bool2_int _ w) fun wq hw=>?_;rw[hw];clear hw;go_wp2_with fail;go_ret;rw[HN.o];first
   |(rw[if_pos hx];simp)
   |(rw[if_neg oo];simp)
theorem ajD(u j:Nat):48<=(Lib.dg u j).toNat/\(Lib.dg u j).toNat<=57:=by unfold Lib.dg;have:u/10 ^ j%10<10:=Nat.mod_lt _ oo;rw[UInt8.toNat_ofNat'];omega
theorem fmt2(b cap u:Nat)(hu:u<=999)(w:WD)(c1:w.cell? ⟨b,1,none⟩=some (.int .u8 0))(c2:w.cell? ⟨b,1+1,none⟩=some (.int .u8 0))(f1:w.frozen? ⟨b,1,none⟩=false)(f2:w.frozen? ⟨b,1+1,none⟩=false):
  Calls prog 381 #[.slice (some ⟨b,1,none⟩) 2 cap,.int .u64 (u:Int)] w fun e w'=>e=.returned (.tuple #[])/\w'.cell? ⟨b,1,none⟩=some (.int .u8 ((Lib.dg u 1).toNat:Int))/\w'.cell? ⟨b,1+1,none⟩=some (.int .u8 ((Lib.dg u 0).toNat:Int))/\Below b w w':=by
 have hr:Hid (Lib.sm (u%100*2)=Lib.dg u 1/\Lib.sm (u%100*2+1)=Lib.dg u 0):=by
  refine⟨?_,?_⟩
  .rw[Lib.sm_hi _ (Nat.mod_lt _ oo)];unfold Lib.dg;congr 2;omega
  .rw[Lib.sm_lo _ (Nat.mod_lt _ oo)];unfold Lib.dg;congr 2;omega
 go_in;go_name_bytes SM hSM
 have eSM:SM=Lib.smalls:=by rw[<-hSM];decide +kernel
 subst eSM;clear hSM;go_wp2_with fail;refine wp_loop_rounds 1 ?_;rw[rounds_succ];go_wp2_with fail;go_name_slot 16 x hx
 have hxe:x=((u%100*2:Nat):Int):=oo;have hXa:∀w,(Instr.index 9 (.string Lib.smalls) (.int .u32 (x+1))).run prog w=.ok (.int .u8 ((Lib.sm (u%100*2+1)).toNat:Int)) w:=Lib.idx_smalls 9 Tryz.underlying9 .u32 _ _ oo oo;have hXb:∀w,(Instr.index 9 (.string Lib.smalls) (.int .u32 x)).run prog w=.ok (.int .u8 ((Lib.sm (u%100*2)).toNat:Int)) w:=Lib.idx_smalls 9 Tryz.underlying9 .u32 _ _ oo oo;have hlo:0<=x:=oo;have hhi:x<=198:=oo;clear hx hxe;rw[hr.o.1]at hXb;rw[hr.o.2]at hXa;go_region
 go_wp2_with fail;go_end0
 refine⟨rfl,?_,?_,?_⟩
 .show World.cell? (World.setCell _ _ _) _=_;refine World.cell?_setCell_same _ _ _ (u:=.int .u8 0) ?_;exact(World.cell?_setCell_other _ _ _ (b:=⟨b,1,none⟩) Ab).trans c1
 .show World.cell? (World.setCell _ _ _) _=_;refine(World.cell?_setCell_other _ _ _ (b:=⟨b,2,none⟩) Ab).trans ?_;exact World.cell?_setCell_same _ _ _ c2
 .exact((((Below.refl b w).setCell (p:=⟨b,2,none⟩) nl _).setCell (p:=⟨b,1,none⟩) nl _)).drew
def JH(nd u:Nat):List UInt8:=(List.range nd).map fun j=>Lib.dg u (nd-1-j)
theorem JI(nd u:Nat):(JH nd u).length=nd:=by simp[JH]
theorem agN{nd u j:Nat}(h:j<(JH nd u).length):(JH nd u)[j]=Lib.dg u (nd-1-j):=by simp[JH]
theorem agO(u nd:Nat)(T:TypeId)(hu:u<=999)(h2:2<=nd)(h4:nd<=4)(w:WD):
  Calls prog 381 #[.slice (some ⟨w.heap.size,1,none⟩) nd 23,.int .u64 (u:Int)] (w.alloc (.cells Lib.zeros24 T)) fun e w'=>e=.returned (.tuple #[])/\(∀j,j<nd->w'.cell? ⟨w.heap.size,1+j,none⟩=some (.int .u8 ((Lib.dg u (nd-1-j)).toNat:Int)))/\Below w.heap.size w w':=by
 have hH0:=Lib.holds_zero w T nd oo;have hb0:Below w.heap.size w (w.alloc (.cells Lib.zeros24 T)):=Ax.alloc nl _;rcases Nat.lt_or_ge nd 3 with h3|h3
 .obtain rfl:nd=2:=oo;have c1:=hH0 0 Ab;have c2:=hH0 1 Ab;refine(fmt2 w.heap.size 23 u hu _ (by simpa using c1.1) (by simpa using c2.1) c1.2 c2.2).mono ?_;rintro e w' ⟨rfl,k1,k2,hb⟩;refine⟨rfl,fun j hj=>?_,hb0.trans hb⟩;rcases(show j=0\/j=1 by omega)with rfl|rfl
  .exact k1
  .exact k2
 .have hp:u<10 ^ nd:=by
   rcases(show nd=3\/nd=4 by omega)with rfl|rfl<;>omega
  have hfmt:=Tryz.internal_strconv_formatBase10 w.heap.size 1 23 u (Array.replicate nd 0) (w.alloc (.cells Lib.zeros24 T)) hH0 (by rw[Array.size_replicate];exact hp) oo (by rw[Array.size_replicate];omega);rw[Array.size_replicate]at hfmt;refine hfmt.mono ?_;rintro e w' ⟨rfl,k,v',dk,rfl,hF⟩;refine⟨rfl,fun j hj=>?_,?_⟩
  .rw[World.cell?_drewN,<-hF.done j oo hj];exact Go.Sort.cell?_putRow (fun(b:UInt8)=>Value.int .u8 (b.toNat:Int)) _ w.heap.size 1 _ dk hH0 (by rw[hF.size,Array.size_replicate]) j (by rw[hF.size];exact hj)
  .obtain⟨os,eo⟩:=Lib.fin_pos w (.cells Lib.zeros24 T) dk k;rw[eo];exact⟨rfl,rfl,rfl,by show w.heap.size<=(w.heap++os).size;simp,fun i hi=>by show(w.heap++os)[i]?=w.heap[i]?;rw[Array.getElem?_append_left hi]⟩
theorem TF(t:Nat->Int)(u:Nat)(h1:100<=u)(h2:u<=999)(w:WD)(ht:JG t w):
  Calls prog 378 #[.int .i64 (u:Int),.int .i64 10] w fun e w'=>e=.returned (.string ⟨(JH (ndT t u) u).toArray⟩)/\Below w.heap.size w w':=by
 obtain⟨nd,Hnd⟩:=Nm (ndT t u);have hnd:=adS (t:=t) h1 h2;rw[Hnd.o]at hnd⊢;have HT:=hid ht;clear ht;have hal:prog.arrayLen 390=24:=by simp[Program.arrayLen,Tryz.underlying390]
 have hsl1:∀W,(Instr.sliceAt 390 (.pointer (some ⟨w.heap.size,0,none⟩)) (some (.int .i64 1)) (some (.int .i64 (1+(nd:Int)))) none).run prog W=.ok (.slice (some ⟨w.heap.size,1,none⟩) nd 23) W:=fun W=>by rw[run_sliceAt_array_lh W 390 ⟨w.heap.size,0,none⟩ (by simp[Program.arrayLen,Program.elem,Tryz.underlying390]) .i64 .i64 1 (1+(nd:Int)) oo oo (by rw[hal];omega)];go_simp;omega
 clear hal;go_in;go_wp2_with fail;refine pmb (TD t u h1 h2 _ (HT.o.below (Ax.alloc nl _))) fun wq hw=>?_;rw[hw,Hnd.o];clear hw;go_wp2_with fail;refine(agO u nd 390 h2 hnd.1 hnd.2 w).mono ?_;rintro e w2 ⟨rfl,hc,hb⟩;have hcv:(convert 145 9 (.slice (some ⟨w.heap.size,1,none⟩) nd 23)).run prog w2=.ok (.string ⟨(JH nd u).toArray⟩) w2:=by
  have h:=run_convert_bytes_back (P:=prog) w2 145 9 5 ⟨w.heap.size,1,none⟩ 23 (JH nd u) Tryz.underlying145 Tryz.underlying5 Tryz.underlying9 (fun j hj=>by rw[agN,Lib.add_plain];exact hc j (by rw[JI]at hj;exact hj))
  rw[JI]at h;exact h
 have HB:=hid hb;clear hc hb;go_wp2_with fail;go_ret;exact⟨rfl,HB.o⟩
theorem ajE(t:Nat->Int)(u:Nat)(h1:100<=u)(h2:u<=999)(w:WD)(ht:JG t w):
  Calls prog 377 #[.int .i64 (u:Int)] w fun e w'=>e=.returned (.string ⟨(JH (ndT t u) u).toArray⟩)/\Below w.heap.size w w':=by
 have HT:=hid ht;clear ht;go_in;go_wp2_with fail;refine pmb (TF t u h1 h2 w HT.o) fun w1 hb=>?_;have HB:=hid hb;clear hb;go_wp2_with fail;go_ret;exact⟨rfl,HB.o⟩
theorem ajF(t:Nat->Int)(u:Nat)(h1:100<=u)(h2:u<=999)(w:WD)(ht:JG t w):
  Calls prog 376 #[.int .i64 (u:Int)] w fun e w'=>e=.returned (.string ⟨(JH (ndT t u) u).toArray⟩)/\Below w.heap.size w w':=by
 have HT:=hid ht;clear ht;go_in;go_wp2_with fail;refine pmb (ajE t u h1 h2 w HT.o) fun w1 hb=>?_;have HB:=hid hb;clear hb;go_wp2_with fail;go_ret;exact⟨rfl,HB.o⟩
def JJ(t:Nat->Int)(n:Nat):List UInt8:=if n<100 then Lib.decDigits n else JH (ndT t n) n
theorem ajG:∀n:Fin 100,0<(Lib.decDigits n.val).length/\(Lib.decDigits n.val).length<=100/\∀c∈Lib.decDigits n.val,48<=c.toNat/\c.toNat<=57:=by
 intro n;have e:Lib.decDigits n.val=if n.val<10 then [UInt8.ofNat (48+n.val)] else [UInt8.ofNat (48+n.val/10),UInt8.ofNat (48+n.val%10)]:=by
  rw[Lib.decDigits];split
  .rfl
  .rw[Lib.decDigits,dif_pos oo];rfl
 rw[e];revert n
 decide +kernel
theorem Pe(t:Nat->Int){n:Nat}(hn:n<=999):0<(JJ t n).length/\(JJ t n).length<=100/\∀c∈JJ t n,48<=c.toNat/\c.toNat<=57:=by
 unfold JJ;split
 .rename_i h;exact ajG ⟨n,h⟩
 .rename_i h;have:=adS (t:=t) (u:=n) oo hn;rw[JI];refine⟨oo,oo,fun c hc=>?_⟩;obtain⟨j,_,rfl⟩:=List.mem_map.1 hc;exact ajD _ _
def jW(t:Nat->Int):ZW where
 dO n:=if n<=999 then⟨(JJ t n).toArray⟩ else b1 48
 pos n _:=by
  split
  .rename_i h;exact(by rw[show(⟨(JJ t n).toArray⟩:BY).size=(JJ t n).length from rfl];exact(Pe t h).1)
  .decide
 sz n _:=by
  split
  .rename_i h;exact(by rw[show(⟨(JJ t n).toArray⟩:BY).size=(JJ t n).length from rfl];exact(Pe t h).2.1)
  .decide
 mW n h c hc:=by rw[if_pos h]at hc;have:=(Pe t h).2.2 c (by simpa using hc);unfold fG;simp;omega
theorem Xv[bV]:jm:=fun n hn=>(default:ZW).sz n hn
theorem adT(t:Nat->Int)(w:WD)(h:JG t w): @jD ⟨jW t⟩ w:=by
 intro n w' hn hb;have e: @H7 ⟨jW t⟩ n=⟨(JJ t n).toArray⟩:=if_pos hn;rw[e];unfold JJ;by_cases h1:n<100
 .rw[if_pos h1];refine(Tryz.strconv_Itoa_small n h1 w').mono ?_;rintro e w2 ⟨rfl,rfl⟩;exact⟨rfl,Ax⟩
 .rw[if_neg h1];exact ajF t n oo hn w' (h.below hb)
theorem adU:prog.cellTypes prog.depth 396=some (List.replicate 20 101):=by kernel_rfl
theorem ajH(W:WD)(hsh:W.ShapedOpen prog):∃t,JG t W:=by
 have h0:((begin prog (fun _ _=>0) default).world.heap[3]?).bind Obj.row?=some (Array.replicate 20 (.int .u64 0),396):=by kernel_rfl
 obtain⟨cs,hh,hs,hr⟩:=hsh.1 3 _ 396 (of_decide_eq_true Ao) h0;obtain⟨ts,hts,_,hall⟩:=hr Ao;rw[adU]at hts;cases hts;have amV:cs.size=20:=by rw[hs];simp
 have key:∀k,k<20->∃m,W.cell? ⟨3,k,none⟩=some (.int .u64 m):=fun k hk=>by
  have h1:k<cs.size:=oo;obtain⟨u,hu',hok⟩:=hall k cs[k] (by simp[h1]);have:u=101:=by rw[List.getElem?_replicate,if_pos (by simp;omega)]at hu';exact(Option.some.inj hu').symm
  subst this;have hcell:W.cell? ⟨3,k,none⟩=some cs[k]:=by simp[World.cell?,hh,h1]
  rw[hcell];unfold Cell.ok at hok;rw[Tryz.underlying101]at hok;cases hv:cs[k]<;>rw[hv]at hok<;>simp at hok
  case int k' n=>exact⟨n,by rw[hok.1]⟩
 refine⟨fun k=>if h:k<20 then(key k h).choose else 0,fun k hk=>?_⟩;show _=some (Value.int .u64 (if h:k<20 then(key k h).choose else 0));rw[dif_pos hk];exact(key k hk).choose_spec
theorem cells_at{w:WD}{b:Nat}{cs:Array Av}{T:TypeId}(h:w.heap[b]?=some (.cells cs T (0,0)))(i:Nat):w.cell? ⟨b,i,none⟩=cs[i]?:=by unfold World.cell?;rw[h];simp
theorem Pg{S:Nat->Prop}{w:WD}{b:Nat}(hS:S b):∀(l:List BY) (o:Nat),(∀i (h:i<l.length),w.cell? ⟨b,o+i,none⟩=some (.string l[i]))->(∀s∈l,s.size<=4194304)->LG eX 1 S w l b o
 |[],_,_,_=>by simp[LG]
 |s::r,o,h,hz=>by
  refine⟨⟨hS,[.string s],⟨rfl,hz s List.mem_cons_self⟩,fun j u hu=>?_⟩,Pg hS r (o+1) (fun i hi=>?_) (fun x hx=>hz x (List.mem_cons_of_mem _ hx))⟩
  .match j,hu with
   |0,hu=>cases hu;exact h 0 Ab
  .have:=h (i+1) (by simpa using hi);rw[show o+1+i=o+(i+1) by omega];exact this
theorem Ph{S:Nat->Prop}{w:WD}{b:Nat}{l:List BY}{n cap:Nat}(hn:n=l.length)(hS:S b)(hc:l.length<=cap)(h6:l.length<=2097152)(h:∀i (h:i<l.length),w.cell? ⟨b,0+i,none⟩=some (.string l[i]))(hz:∀s∈l,s.size<=4194304):SG eX 1 S w (.slice (some ⟨b,0,none⟩) n cap) l:=by subst hn;exact⟨_,cap,rfl,⟨hc,h6⟩,fun _=>⟨b,0,rfl,Pg hS l 0 h hz⟩⟩
theorem Za{w:WD}{base b:Nat}{T:TypeId}{n:Nat}(l:List BY)(hn:n=l.length)(h:w.heap[b]?=some (.cells (l.map Value.string).toArray T (0,0)))(hb:base<=b)(hl:n<=100):w.ownsRow base T 1 (.slice (some ⟨b,0,none⟩) n n) n (l.map Value.string):=by subst hn;exact⟨by simp,.inr ⟨b,_,_,rfl,hb,h,Nat.le_refl _,by unfold maxLen;omega,by simp,by simp[List.take_of_length_le]⟩⟩
theorem agP{w:WD}{base n:Nat}{T:TypeId}{v:Av}{l:List BY}(h:w.ownsRow base T 1 v n (l.map Value.string))(hn:n=l.length)(h1:1<=n)(hl:n<=100)(hz:∀s∈l,s.size<=4194304):SG eX 1 (fun b=>b<w.heap.size) w v l:=by
 subst hn;have hc:=fun g=>h.cells (g:=g);have hlt:=h.lt;rcases h.2 with⟨rfl,hn⟩|⟨g,cap,cur,rfl,hbg,hg,hnc,hrest⟩
 .omega
 .exact Ph rfl (hlt g rfl).2 hnc oo (fun i hi=>by have:=hc g rfl i (.string l[i]) (by rw[List.getElem?_map,List.getElem?_eq_getElem hi];rfl);rwa[Addr.add_lit]at this) hz
theorem qy{w w1:WD}{o0:Obj}(h:w.alloc o0=w1):w1.heap[w.heap.size]?=some o0/\Below w.heap.size w w1:=by subst h;exact⟨heap_alloc_new w _,Ax.alloc nl _⟩
theorem alF{w w1:WD}{o0 o1 o2:Obj}(h:((w.alloc o0).alloc o1).alloc o2=w1):w1.heap[w.heap.size]?=some o0/\w1.heap[w.heap.size+1]?=some o1/\w1.heap[w.heap.size+1+1]?=some o2/\Below w.heap.size w w1:=by
 subst h;refine⟨?_,?_,?_,((Ax.alloc nl _).alloc Ab _).alloc An _⟩
 .rw[Below.heap_alloc _ _ _ (by simp;omega),Below.heap_alloc _ _ _ Ab];exact heap_alloc_new w _
 .rw[Below.heap_alloc _ _ _ (by simp)];have:=heap_alloc_new (w.alloc o0) o1;simpa using this
 .have:=heap_alloc_new ((w.alloc o0).alloc o1) o2;simpa using this
theorem agQ{w w1:WD}{o0 o1 o2 o3:Obj}(h:(((w.alloc o0).alloc o1).alloc o2).alloc o3=w1):w1.heap[w.heap.size]?=some o0/\w1.heap[w.heap.size+1]?=some o1/\w1.heap[w.heap.size+1+1]?=some o2/\w1.heap[w.heap.size+1+1+1]?=some o3/\Below w.heap.size w w1:=by
 subst h;refine⟨?_,?_,?_,?_,(((Ax.alloc nl _).alloc Ab _).alloc An _).alloc An _⟩
 .rw[Below.heap_alloc _ _ _ (by simp;omega),Below.heap_alloc _ _ _ An,Below.heap_alloc _ _ _ Ab];exact heap_alloc_new w _
 .rw[Below.heap_alloc _ _ _ (by simp),Below.heap_alloc _ _ _ (by simp)];have:=heap_alloc_new (w.alloc o0) o1;simpa using this
 .rw[Below.heap_alloc _ _ _ (by simp)];have:=heap_alloc_new ((w.alloc o0).alloc o1) o2;simpa using this
 .have:=heap_alloc_new (((w.alloc o0).alloc o1).alloc o2) o3;simpa using this
def pAw:aF:=⟨⟨#[114]⟩,[⟨#[99,111,108,111,114]⟩],[],[],false,false⟩
def sAw:BY:=⟨#[112,123,99,111,108,111,114,58,117,114,108,40,120,41,125,32,112,123,99,111,108,111,114,58,114,101,100,59,116,111,112,58,48,125]⟩
def oAw:BY:=⟨#[46,114,32,112,123,99,111,108,111,114,58,114,101,100,125]⟩
theorem Zb[bV]:(dR sAw pAw).1=oAw/\(dR sAw pAw).2=0:=⟨by kernel_rfl,by kernel_rfl⟩
theorem agR[bV](w:WD)(hI:jD w)(hl:Lit w):
  Calls prog 17 #[] w fun e w'=>e=.returned (.bool true)/\Below w.heap.size w w':=by
 have HI:=hid hI;have HL:=hid hl;clear hI hl;go_in;go_wp2_with fail;generalize hw1:World.alloc _ _=w1;obtain⟨q0,hb⟩:=qy hw1;have HB:=hid hb;have R1:w1.ownsRow w.heap.size 9 1 (.slice (some ⟨w.heap.size,0,none⟩) 1 1) 1 (pAw.props.map Value.string):=Za _ rfl q0 nl oo;have hS:=agP R1 rfl oo oo (fun s hs=>by rw[List.mem_singleton.1 hs];decide);have PM:jK w1.heap.size w1 pAw (.slice (some ⟨w.heap.size,0,none⟩) 1 1) (.slice none 0 0) (.slice none 0 0):=⟨hS,SG.iE _ _ _ _ _ _,SG.iE _ _ _ _ _ _,Nat.le_refl _⟩;refine(YT w1.heap.size sAw pAw _ _ _ w1 PM (HI.o.below hb nl) Xv (HL.o.below hb) Al Al).mono ?_;rw[Zb.1,Zb.2];clear hw1 q0 hb R1 hS PM;rintro e w2 ⟨rfl,hb⟩;have HB2:=hid (AC HB.o hb);clear hb HB;unfold oAw;go_wp2_with fail;go_ret
 exact⟨rfl,HB2.o⟩
def bK(c:Int)(n:Nat):Nat:=(Int.tmod (if c<0 then -(c+1) else c) n).toNat
theorem Dz(c:Int)(n:Nat):Int.tmod (if c<0 then -(c+1) else c) n=(bK c n:Int):=by
 have h:0<=(if c<0 then -(c+1) else c):=by split<;>omega
 unfold bK;rw[Int.tmod_eq_emod_of_nonneg h];cases n with
 |zero=>simp;omega
 |succ n=>exact(Int.toNat_of_nonneg (Int.emod_nonneg _ oo)).symm
theorem jJ(c:Int){n:Nat}(hn:0<n):bK c n<n:=by
 have h:0<=(if c<0 then -(c+1) else c):=by split<;>omega
 have:=Dz c n;rw[Int.tmod_eq_emod_of_nonneg h]at this;have:=Int.emod_lt_of_pos (if c<0 then -(c+1) else c) (show(0:Int)<n by omega);omega
theorem JK(c:Int)(w:WD)(h: -9223372036854775808<=c/\c<=9223372036854775807):Calls prog 14 #[.int .i64 c,.int .i64 3] w fun e w'=>e=.returned (.int .i64 (bK c 3:Int))/\w'=w:=by
 have hp:=Dz c 3;by_cases h0:c<0
 .rw[if_pos h0]at hp;have hp':Int.tmod (-(c+1)) 3=(bK c 3:Int):=hp;go_in;go_wp2_with fail;go_ret;exact⟨rfl,rfl⟩
 .rw[if_neg h0]at hp;have hp':Int.tmod c 3=(bK c 3:Int):=hp;go_in;go_wp2_with fail;go_ret;exact⟨rfl,rfl⟩
theorem JL(c:Int)(w:WD)(h: -9223372036854775808<=c/\c<=9223372036854775807):Calls prog 14 #[.int .i64 c,.int .i64 6] w fun e w'=>e=.returned (.int .i64 (bK c 6:Int))/\w'=w:=by
 have hp:=Dz c 6;by_cases h0:c<0
 .rw[if_pos h0]at hp;have hp':Int.tmod (-(c+1)) 6=(bK c 6:Int):=hp;go_in;go_wp2_with fail;go_ret;exact⟨rfl,rfl⟩
 .rw[if_neg h0]at hp;have hp':Int.tmod c 6=(bK c 6:Int):=hp;go_in;go_wp2_with fail;go_ret;exact⟨rfl,rfl⟩
def rX:Nat->BY
 |0=>⟨#[114]⟩
 |1=>⟨#[115,97,110,100,98,111,120]⟩
 |_=>⟨#[98,111,120]⟩
def prO:List BY:=[⟨#[99,111,108,111,114]⟩,⟨#[119,105,100,116,104]⟩,⟨#[113,117,111,116,101,115]⟩,⟨#[116,111,112]⟩,⟨#[102,111,110,116,45,115,105,122,101]⟩,⟨#[99,111,110,116,101,110,116]⟩]
def fnO:List BY:=[⟨#[99,97,108,99]⟩,⟨#[118,97,114]⟩,⟨#[114,103,98]⟩,⟨#[117,114,108]⟩,⟨#[110,111,116]⟩]
def atO:List BY:=[⟨#[109,101,100,105,97]⟩,⟨#[115,117,112,112,111,114,116,115]⟩]
def Bd(a b c:Int):aF:=⟨rX (bK a 3),prO.take (1+bK b 6),fnO.take (bK c 6),atO.take (bK a 3),Int.tmod b 2==0,Int.tmod c 2==0⟩
theorem rY{w:WD}{b:Nat}{T:TypeId}(h:w.heap[b]?=some (.cells #[.string ⟨#[114]⟩,.string ⟨#[115,97,110,100,98,111,120]⟩,.string ⟨#[98,111,120]⟩] T (0,0))):∀i,i<3->w.cell? ⟨b,i,none⟩=some (.string (rX i)):=by intro i hi;rw[cells_at h];rcases(show i=0\/i=1\/i=2 by omega)with rfl|rfl|rfl<;>rfl
structure Bf(w:WD)(n:Nat):Prop where
 res:w.heap[n]?=some (.cells #[.string ⟨#[]⟩,.slice none 0 0,.slice none 0 0,.slice none 0 0,.bool false,.bool false] 41 (0,0))
 props:w.heap[n+1]?=some (.cells (prO.map Value.string).toArray 9 (0,0))
 aJ:w.heap[n+1+1]?=some (.cells (fnO.map Value.string).toArray 9 (0,0))
 ats:w.heap[n+1+1+1]?=some (.cells (atO.map Value.string).toArray 9 (0,0))
theorem Bf.next{w w':WD}{n:Nat}(h:Bf w n)(hb:Below w.heap.size w w'):Bf w' n:=by have lt:=(Ay h.ats);exact⟨by rw[hb.block n oo];exact h.res,by rw[hb.block (n+1) oo];exact h.props,by rw[hb.block (n+1+1) oo];exact h.aJ,by rw[hb.block (n+1+1+1) oo];exact h.ats⟩
theorem Bf.fz{w:WD}{n:Nat}(h:Bf w n)(k:Nat):w.frozen? ⟨n,k,none⟩=false:=by unfold World.frozen?;rw[h.res];simp
theorem Pj{w w':WD}{n:Nat}{x0 x1 x2 x3 x4 x5:Av}(h:Bf w n)(e:(((((w.setCell ⟨n,0,none⟩ x0).setCell ⟨n,1,none⟩ x1).setCell ⟨n,2,none⟩ x2).setCell ⟨n,3,none⟩ x3).setCell ⟨n,4,none⟩ x4).setCell ⟨n,5,none⟩ x5=w'):
  (w'.cell? ⟨n,0,none⟩=some x0/\w'.cell? ⟨n,1,none⟩=some x1/\w'.cell? ⟨n,2,none⟩=some x2/\w'.cell? ⟨n,3,none⟩=some x3/\w'.cell? ⟨n,4,none⟩=some x4/\w'.cell? ⟨n,5,none⟩=some x5)/\(∀b,b≠n->w'.heap[b]?=w.heap[b]?)/\w'.heap.size=w.heap.size/\Below n w w':=by
 have o:∀(W:WD) (i j:Nat) (v:Av),i≠j->(W.setCell ⟨n,i,none⟩ v).cell? ⟨n,j,none⟩=W.cell? ⟨n,j,none⟩:=fun W i j v h=>World.cell?_setCell_other _ _ _ _ (fun e=>h (congrArg Addr.off e));have s:∀(W:WD) (i:Nat) (v u:Av),W.cell? ⟨n,i,none⟩=some u->(W.setCell ⟨n,i,none⟩ v).cell? ⟨n,i,none⟩=some v:=fun W i v u h=>World.cell?_setCell_same _ _ _ h;have r0:=(cells_at h.res 0).trans rfl;have r1:=(cells_at h.res 1).trans rfl;have r2:=(cells_at h.res 2).trans rfl;have r3:=(cells_at h.res 3).trans rfl;have r4:=(cells_at h.res 4).trans rfl;have r5:=(cells_at h.res 5).trans rfl;have k:∀(W:WD) (i b:Nat) (v:Av),b≠n->(W.setCell ⟨n,i,none⟩ v).heap[b]?=W.heap[b]?:=fun W i b v hb=>by simp only[World.setCell,Array.getElem?_modify];rw[if_neg (Ne.symm hb)]
 have hlt:n<=n:=Nat.le_refl _;subst e;refine⟨⟨?_,?_,?_,?_,?_,?_⟩,fun b hb=>?_,?_,?_⟩
 .rw[o _ 5 0 _ oo,o _ 4 0 _ oo,o _ 3 0 _ oo,o _ 2 0 _ oo,o _ 1 0 _ oo];exact s _ _ _ _ r0
 .rw[o _ 5 1 _ oo,o _ 4 1 _ oo,o _ 3 1 _ oo,o _ 2 1 _ oo];refine s _ _ _ (.slice none 0 0) ?_;rw[o _ 0 1 _ oo];exact r1
 .rw[o _ 5 2 _ oo,o _ 4 2 _ oo,o _ 3 2 _ oo];refine s _ _ _ (.slice none 0 0) ?_;rw[o _ 1 2 _ oo,o _ 0 2 _ oo];exact r2
 .rw[o _ 5 3 _ oo,o _ 4 3 _ oo];refine s _ _ _ (.slice none 0 0) ?_;rw[o _ 2 3 _ oo,o _ 1 3 _ oo,o _ 0 3 _ oo];exact r3
 .rw[o _ 5 4 _ oo];refine s _ _ _ (.bool false) ?_;rw[o _ 3 4 _ oo,o _ 2 4 _ oo,o _ 1 4 _ oo,o _ 0 4 _ oo];exact r4
 .refine s _ _ _ (.bool false) ?_;rw[o _ 4 5 _ oo,o _ 3 5 _ oo,o _ 2 5 _ oo,o _ 1 5 _ oo,o _ 0 5 _ oo];exact r5
 .rw[k _ 5 b _ hb,k _ 4 b _ hb,k _ 3 b _ hb,k _ 2 b _ hb,k _ 1 b _ hb,k _ 0 b _ hb]
 .simp[World.setCell]
 .exact((((((Below.refl n w).setCell (p:=⟨n,0,none⟩) hlt _).setCell (p:=⟨n,1,none⟩) hlt _).setCell (p:=⟨n,2,none⟩) hlt _).setCell (p:=⟨n,3,none⟩) hlt _).setCell (p:=⟨n,4,none⟩) hlt _).setCell (p:=⟨n,5,none⟩) hlt _
theorem Pm{w:WD}{b k cap:Nat}{T:TypeId}{l:List BY}(h:w.heap[b]?=some (.cells (l.map Value.string).toArray T (0,0)))(hk:k<=l.length)(hc:l.length=cap)(hl:l.length<=100)(hz:∀s∈l,s.size<=100):SG eX 1 (fun b=>b<w.heap.size) w (.slice (some ⟨b,0,none⟩) k cap) (l.take k):=by
 refine Ph An (Ay h) An An (fun i hi=>?_) (fun s hs=>by have:=hz s (List.mem_of_mem_take hs);omega);have hi':i<l.length:=by simp at hi;omega
 rw[Nat.zero_add,cells_at h];simp[hi']
theorem Xw:(∀s∈prO,s.size<=100)/\(∀s∈fnO,s.size<=100)/\(∀s∈atO,s.size<=100):=by decide
theorem Bf.agS{w1 w5:WD}{n:Nat}{a b c:Int}(h:Bf w1 n)(ho:∀q,q≠n->w5.heap[q]?=w1.heap[q]?)(la:bK a 3<3)(lb:bK b 6<6)(lc:bK c 6<6):
  jK w5.heap.size w5 (Bd a b c) (.slice (some ⟨n+1,0,none⟩) (1+bK b 6) 6) (.slice (some ⟨n+1+1,0,none⟩) (bK c 6) 5) (.slice (some ⟨n+1+1+1,0,none⟩) (bK a 3) 2):=
 ⟨Pm (by rw[ho _ oo];exact h.props) (by show _<=6;omega) rfl Al Xw.1,Pm (by rw[ho _ oo];exact h.aJ) (by show _<=5;omega) rfl Al Xw.2.1,Pm (by rw[ho _ oo];exact h.ats) (by show _<=2;omega) rfl Al Xw.2.2,Nat.le_refl _⟩
theorem adW(a b c:Int)(w:WD)(ha: -9223372036854775808<=a/\a<=9223372036854775807)(hb: -9223372036854775808<=b/\b<=9223372036854775807)(hc: -9223372036854775808<=c/\c<=9223372036854775807):
  Calls prog 16 #[.int .i64 a,.int .i64 b,.int .i64 c] w fun e w'=>∃pv fv av,e=.returned (dF (Bd a b c) pv fv av)/\jK w'.heap.size w' (Bd a b c) pv fv av/\Below w.heap.size w w':=by
 have la:=jJ a (n:=3) oo;have lb:=jJ b (n:=6) oo;have lc:=jJ c (n:=6) oo;have la3:(bK a 3:Int)<3:=oo;have lb6:(bK b 6:Int)<6:=oo;have lc6:(bK c 6:Int)<6:=oo;have hwb:IntKind.i64.wrap (1+(bK b 6:Int))=1+(bK b 6:Int):=by rw[IntKind.wrap_i64];omega
 have hkb:(1+(bK b 6:Int)).toNat=1+bK b 6:=oo;have hb1:0<=1+(bK b 6:Int):=oo;have hb2:1+(bK b 6:Int)<=6:=oo;have hc2:(bK c 6:Int)<=5:=oo;have ha2:(bK a 3:Int)<=2:=oo;go_in;go_upto_region 4 with fail
 refine wp_region_any Ao ?_;change wpAny _ _ _ _ _ _ _ (World.drew _);generalize hw0:World.alloc _ _=w0;obtain⟨b0,b1,b2,b3,bw⟩:=agQ hw0;clear hw0;obtain⟨n,Hn⟩:=Nm w.heap.size;rw[Hn.o]at b0 b1 b2 b3;rw[Hn.o];have alG:Bf w0 n:=⟨b0,b1,b2,b3⟩;obtain⟨wz,hwz⟩:∃x,World.drew w0=x:=⟨_,rfl⟩;have hz:Below w0.heap.size w0 wz:=by rw[<-hwz];exact Ax.drew
 rw[hwz];have hPW:=hid (alG.next hz);have hBW:=hid (bw.trans (hz.mono bw.size));obtain⟨m,Hm⟩:=Nm wz.heap.size;have hnm:Hid (n+1+1+1<m):=by show _<_;rw[<-Hm.o];exact(Ay hPW.o.ats)
 clear b0 b1 b2 b3 bw alG hwz hz;refine FT 1 ?_;refine FT 5 ?_;refine FT 6 ?_;refine FT 10 ?_;refine FT 11 ?_;refine FT 14 ?_;refine FT 15 ?_;refine FT 18 ?_;refine FT 19 ?_;refine FT 20 ?_;refine FT 21 ?_;refine FT 22 ?_;refine FT 23 ?_;refine wpAny_ready (rs:=[0,2]) Ao Ab (AllReady.cons rfl (fun K hK=>?_) (AllReady.cons rfl (fun K hK=>?_) AllReady.nil))
 .go_simp;refine hK _ _ ?_;clear hK K;generalize hw1:World.alloc _ _=w1;obtain⟨q0,hq⟩:=qy hw1;rw[Hm.o]at q0;rw[Hm.o];have HS:Hid (∀i,i<3->w1.cell? ⟨m,i,none⟩=some (.string (rX i))):=rY q0;have W1:=hid (hPW.o.next hq);have BQ:=hid (AC hBW.o hq);clear hw1 q0 hq;refine wpAny_of_held (S:=fun wx=>∀i,i<3->wx.cell? ⟨m,i,none⟩=some (.string (rX i))) _ _ _ _ ?_;refine iW 2 fun K hK=>?_;go_simp;refine pmb (JK a _ ha) fun wq hwq=>?_;rw[hwq];clear hwq;refine hK.o _ _ HS.o (fun _=>?_);clear hK K;refine dH 3 rfl HS.o (fun _ _=>gs) ?_;refine dH 4 rfl HS.o (by intro w hSw;have c0:=hSw (bK a 3) la;exact gs) ?_;refine iW 7 fun K hK=>?_;go_simp;refine pmb (JL b _ hb) fun wq hwq=>?_;rw[hwq]
  clear hwq;refine hK.o _ _ HS.o (fun _=>?_);clear hK K;refine dH 8 rfl HS.o (fun _ _=>gs) ?_;refine dH 9 rfl HS.o (fun _ _=>gs) ?_;refine iW 12 fun K hK=>?_;go_simp;refine pmb (JL c _ hc) fun wq hwq=>?_;rw[hwq];clear hwq;refine hK.o _ _ HS.o (fun _=>?_);clear hK K;refine dH 13 rfl HS.o (fun _ _=>gs) ?_;refine iW 16 fun K hK=>?_;go_simp;refine pmb (JK a _ ha) fun wq hwq=>?_;rw[hwq];clear hwq;refine hK.o _ _ HS.o (fun _=>?_);clear hK K;refine dH 17 rfl HS.o (fun _ _=>gs) ?_;refine dH 24 rfl HS.o (fun _ _=>gs) ?_;have r0:=(cells_at W1.o.res 0).trans rfl;have r1:=(cells_at W1.o.res 1).trans rfl
  have r2:=(cells_at W1.o.res 2).trans rfl;have r3:=(cells_at W1.o.res 3).trans rfl;have r4:=(cells_at W1.o.res 4).trans rfl;have r5:=(cells_at W1.o.res 5).trans rfl;have f0:=W1.o.fz 0;have f1:=W1.o.fz 1;have f2:=W1.o.fz 2;have f3:=W1.o.fz 3;have f4:=W1.o.fz 4;have f5:=W1.o.fz 5;refine iW 25 fun K hK=>?_;go_simp;generalize hw5:World.setCell _ _ _=w5;obtain⟨⟨d0,d1,d2,d3,d4,d5⟩,ho,hs5,hb5⟩:=Pj W1.o hw5;refine hK.o _ _ (fun i hi=>(World.cell?_of_block (w:=w1) (ho m (by have:=hnm.o;omega))).trans (HS.o i hi)) (fun _=>?_);clear hK K hw5 r0 r1 r2 r3 r4 r5 f0 f1 f2 f3 f4 f5;refine wpAnyH_done Ao ?_ _;have PM:=hid (W1.o.agS (a:=a) (b:=b) (c:=c) ho la lb lc);have B5:=hid (BQ.o.trans (by rw[Hn.o];exact hb5));clear ho hs5 hb5;go_wp2_with fail
  refine bodyPost_ret (v:=dF (Bd a b c) (.slice (some ⟨n+1,0,none⟩) (1+bK b 6) 6) (.slice (some ⟨n+1+1,0,none⟩) (bK c 6) 5) (.slice (some ⟨n+1+1+1,0,none⟩) (bK a 3) 2)) (by simp[results,Tryz.results16,go_sem,d0,d1,d2,d3,d4,d5,dF,Bd]) rfl ?_;exact⟨_,_,_,rfl,PM.o,B5.o⟩
 .go_simp;refine pmb (JK a _ ha) fun wq hwq=>?_;rw[hwq];clear hwq;refine hK _ _ ?_;clear hK K;refine wpAny_ready (rs:=[0,7]) Ao Ab (AllReady.cons rfl (fun K hK=>?_) (AllReady.cons rfl (fun K hK=>?_) AllReady.nil))
  .go_simp;refine hK _ _ ?_;clear hK K;generalize hw1:World.alloc _ _=w1;obtain⟨q0,hq⟩:=qy hw1;rw[Hm.o]at q0;rw[Hm.o];have HS:Hid (∀i,i<3->w1.cell? ⟨m,i,none⟩=some (.string (rX i))):=rY q0;have W1:=hid (hPW.o.next hq);have BQ:=hid (AC hBW.o hq);clear hw1 q0 hq;refine wpAny_of_held (S:=fun wx=>∀i,i<3->wx.cell? ⟨m,i,none⟩=some (.string (rX i))) _ _ _ _ ?_;refine dH 3 rfl HS.o (fun _ _=>gs) ?_;refine dH 4 rfl HS.o (by intro w hSw;have c0:=hSw (bK a 3) la;exact gs) ?_;refine iW 7 fun K hK=>?_;go_simp;refine pmb (JL b _ hb) fun wq hwq=>?_;rw[hwq];clear hwq;refine hK.o _ _ HS.o (fun _=>?_);clear hK K;refine dH 8 rfl HS.o (fun _ _=>gs) ?_
   refine dH 9 rfl HS.o (fun _ _=>gs) ?_;refine iW 12 fun K hK=>?_;go_simp;refine pmb (JL c _ hc) fun wq hwq=>?_;rw[hwq];clear hwq;refine hK.o _ _ HS.o (fun _=>?_);clear hK K;refine dH 13 rfl HS.o (fun _ _=>gs) ?_;refine iW 16 fun K hK=>?_;go_simp;refine pmb (JK a _ ha) fun wq hwq=>?_;rw[hwq];clear hwq;refine hK.o _ _ HS.o (fun _=>?_);clear hK K;refine dH 17 rfl HS.o (fun _ _=>gs) ?_;refine dH 24 rfl HS.o (fun _ _=>gs) ?_;have r0:=(cells_at W1.o.res 0).trans rfl;have r1:=(cells_at W1.o.res 1).trans rfl;have r2:=(cells_at W1.o.res 2).trans rfl;have r3:=(cells_at W1.o.res 3).trans rfl;have r4:=(cells_at W1.o.res 4).trans rfl;have r5:=(cells_at W1.o.res 5).trans rfl
   have f0:=W1.o.fz 0;have f1:=W1.o.fz 1;have f2:=W1.o.fz 2;have f3:=W1.o.fz 3;have f4:=W1.o.fz 4;have f5:=W1.o.fz 5;refine iW 25 fun K hK=>?_;go_simp;generalize hw5:World.setCell _ _ _=w5;obtain⟨⟨d0,d1,d2,d3,d4,d5⟩,ho,hs5,hb5⟩:=Pj W1.o hw5;refine hK.o _ _ (fun i hi=>(World.cell?_of_block (w:=w1) (ho m (by have:=hnm.o;omega))).trans (HS.o i hi)) (fun _=>?_);clear hK K hw5 r0 r1 r2 r3 r4 r5 f0 f1 f2 f3 f4 f5;refine wpAnyH_done Ao ?_ _;have PM:=hid (W1.o.agS (a:=a) (b:=b) (c:=c) ho la lb lc);have B5:=hid (BQ.o.trans (by rw[Hn.o];exact hb5));clear ho hs5 hb5;go_wp2_with fail;refine bodyPost_ret (v:=dF (Bd a b c) (.slice (some ⟨n+1,0,none⟩) (1+bK b 6) 6) (.slice (some ⟨n+1+1,0,none⟩) (bK c 6) 5) (.slice (some ⟨n+1+1+1,0,none⟩) (bK a 3) 2)) (by simp[results,Tryz.results16,go_sem,d0,d1,d2,d3,d4,d5,dF,Bd]) rfl ?_
   exact⟨_,_,_,rfl,PM.o,B5.o⟩
  .go_simp;refine pmb (JL b _ hb) fun wq hwq=>?_;rw[hwq];clear hwq;refine hK _ _ ?_;clear hK K;refine FT 8 ?_;refine FT 9 ?_;refine wpAny_ready (rs:=[0,12]) Ao Ab (AllReady.cons rfl (fun K hK=>?_) (AllReady.cons rfl (fun K hK=>?_) AllReady.nil))
   .go_simp;refine hK _ _ ?_;clear hK K;generalize hw1:World.alloc _ _=w1;obtain⟨q0,hq⟩:=qy hw1;rw[Hm.o]at q0;rw[Hm.o];have HS:Hid (∀i,i<3->w1.cell? ⟨m,i,none⟩=some (.string (rX i))):=rY q0;have W1:=hid (hPW.o.next hq);have BQ:=hid (AC hBW.o hq);clear hw1 q0 hq;refine wpAny_of_held (S:=fun wx=>∀i,i<3->wx.cell? ⟨m,i,none⟩=some (.string (rX i))) _ _ _ _ ?_;refine dH 3 rfl HS.o (fun _ _=>gs) ?_;refine dH 4 rfl HS.o (by intro w hSw;have c0:=hSw (bK a 3) la;exact gs) ?_;refine iW 12 fun K hK=>?_;go_simp;refine pmb (JL c _ hc) fun wq hwq=>?_;rw[hwq];clear hwq;refine hK.o _ _ HS.o (fun _=>?_);clear hK K;refine dH 13 rfl HS.o (fun _ _=>gs) ?_
    refine iW 16 fun K hK=>?_;go_simp;refine pmb (JK a _ ha) fun wq hwq=>?_;rw[hwq];clear hwq;refine hK.o _ _ HS.o (fun _=>?_);clear hK K;refine dH 17 rfl HS.o (fun _ _=>gs) ?_;refine dH 24 rfl HS.o (fun _ _=>gs) ?_;have r0:=(cells_at W1.o.res 0).trans rfl;have r1:=(cells_at W1.o.res 1).trans rfl;have r2:=(cells_at W1.o.res 2).trans rfl;have r3:=(cells_at W1.o.res 3).trans rfl;have r4:=(cells_at W1.o.res 4).trans rfl;have r5:=(cells_at W1.o.res 5).trans rfl;have f0:=W1.o.fz 0;have f1:=W1.o.fz 1;have f2:=W1.o.fz 2;have f3:=W1.o.fz 3;have f4:=W1.o.fz 4;have f5:=W1.o.fz 5;refine iW 25 fun K hK=>?_;go_simp;generalize hw5:World.setCell _ _ _=w5;obtain⟨⟨d0,d1,d2,d3,d4,d5⟩,ho,hs5,hb5⟩:=Pj W1.o hw5
    refine hK.o _ _ (fun i hi=>(World.cell?_of_block (w:=w1) (ho m (by have:=hnm.o;omega))).trans (HS.o i hi)) (fun _=>?_);clear hK K hw5 r0 r1 r2 r3 r4 r5 f0 f1 f2 f3 f4 f5;refine wpAnyH_done Ao ?_ _;have PM:=hid (W1.o.agS (a:=a) (b:=b) (c:=c) ho la lb lc);have B5:=hid (BQ.o.trans (by rw[Hn.o];exact hb5));clear ho hs5 hb5;go_wp2_with fail;refine bodyPost_ret (v:=dF (Bd a b c) (.slice (some ⟨n+1,0,none⟩) (1+bK b 6) 6) (.slice (some ⟨n+1+1,0,none⟩) (bK c 6) 5) (.slice (some ⟨n+1+1+1,0,none⟩) (bK a 3) 2)) (by simp[results,Tryz.results16,go_sem,d0,d1,d2,d3,d4,d5,dF,Bd]) rfl ?_;exact⟨_,_,_,rfl,PM.o,B5.o⟩
   .go_simp;refine pmb (JL c _ hc) fun wq hwq=>?_;rw[hwq];clear hwq;refine hK _ _ ?_;clear hK K;refine FT 13 ?_;refine wpAny_ready (rs:=[0,16]) Ao Ab (AllReady.cons rfl (fun K hK=>?_) (AllReady.cons rfl (fun K hK=>?_) AllReady.nil));focus
     go_simp;refine hK _ _ ?_;clear hK K;generalize hw1:World.alloc _ _=w1;obtain⟨q0,hq⟩:=qy hw1;rw[Hm.o]at q0;rw[Hm.o];have HS:Hid (∀i,i<3->w1.cell? ⟨m,i,none⟩=some (.string (rX i))):=rY q0;have W1:=hid (hPW.o.next hq);have BQ:=hid (AC hBW.o hq);clear hw1 q0 hq;refine wpAny_of_held (S:=fun wx=>∀i,i<3->wx.cell? ⟨m,i,none⟩=some (.string (rX i))) _ _ _ _ ?_;refine dH 3 rfl HS.o (fun _ _=>gs) ?_;refine dH 4 rfl HS.o (by intro w hSw;have c0:=hSw (bK a 3) la;exact gs) ?_;refine iW 16 fun K hK=>?_;go_simp;refine pmb (JK a _ ha) fun wq hwq=>?_;rw[hwq];clear hwq;refine hK.o _ _ HS.o (fun _=>?_);clear hK K;refine dH 17 rfl HS.o (fun _ _=>gs) ?_
    rotate_left;focus
     go_simp;refine pmb (JK a _ ha) fun wq hwq=>?_;rw[hwq];clear hwq;refine hK _ _ ?_;clear hK K;refine FT 17 ?_;refine brA 0 fun K hK=>?_;go_simp;refine hK _ _ ?_;clear hK K;generalize hw1:World.alloc _ _=w1;obtain⟨q0,hq⟩:=qy hw1;rw[Hm.o]at q0;rw[Hm.o];have HS:Hid (∀i,i<3->w1.cell? ⟨m,i,none⟩=some (.string (rX i))):=rY q0;have W1:=hid (hPW.o.next hq);have BQ:=hid (AC hBW.o hq);clear hw1 q0 hq;refine wpAny_of_held (S:=fun wx=>∀i,i<3->wx.cell? ⟨m,i,none⟩=some (.string (rX i))) _ _ _ _ ?_;refine dH 3 rfl HS.o (fun _ _=>gs) ?_;refine dH 4 rfl HS.o (by intro w hSw;have c0:=hSw (bK a 3) la;exact gs) ?_
    rotate_left;all_goals
     refine dH 24 rfl HS.o (fun _ _=>gs) ?_;have r0:=(cells_at W1.o.res 0).trans rfl;have r1:=(cells_at W1.o.res 1).trans rfl;have r2:=(cells_at W1.o.res 2).trans rfl;have r3:=(cells_at W1.o.res 3).trans rfl;have r4:=(cells_at W1.o.res 4).trans rfl;have r5:=(cells_at W1.o.res 5).trans rfl;have f0:=W1.o.fz 0;have f1:=W1.o.fz 1;have f2:=W1.o.fz 2;have f3:=W1.o.fz 3;have f4:=W1.o.fz 4;have f5:=W1.o.fz 5;refine iW 25 fun K hK=>?_;go_simp;generalize hw5:World.setCell _ _ _=w5;obtain⟨⟨d0,d1,d2,d3,d4,d5⟩,ho,hs5,hb5⟩:=Pj W1.o hw5;refine hK.o _ _ (fun i hi=>(World.cell?_of_block (w:=w1) (ho m (by have:=hnm.o;omega))).trans (HS.o i hi)) (fun _=>?_);clear hK K hw5 r0 r1 r2 r3 r4 r5 f0 f1 f2 f3 f4 f5;refine wpAnyH_done Ao ?_ _;have PM:=hid (W1.o.agS (a:=a) (b:=b) (c:=c) ho la lb lc)
     have B5:=hid (BQ.o.trans (by rw[Hn.o];exact hb5));clear ho hs5 hb5;go_wp2_with fail;refine bodyPost_ret (v:=dF (Bd a b c) (.slice (some ⟨n+1,0,none⟩) (1+bK b 6) 6) (.slice (some ⟨n+1+1,0,none⟩) (bK c 6) 5) (.slice (some ⟨n+1+1+1,0,none⟩) (bK a 3) 2)) (by simp[results,Tryz.results16,go_sem,d0,d1,d2,d3,d4,d5,dF,Bd]) rfl ?_;exact⟨_,_,_,rfl,PM.o,B5.o⟩
end Go.Proofs.YtlliliddljkbfaaGreat
namespace Go.Proofs.YtlliliddljkbfaaGreat
open Go.RowKit Go.Conc Sp
end Go.Proofs.YtlliliddljkbfaaGreat
namespace Go.Proofs.YtlliliddljkbfaaGreat
open Go.Proofs.Tryz (prog)
open Go.RowKit Sp
theorem adX:∀(i:Fin 3) (j k:Fin 6) (x y:Bool),qp ⟨rX i.val,prO.take (1+j.val),fnO.take k.val,atO.take i.val,x,y⟩=true:=by decide +kernel
theorem agT(a b c:Int):qp (Bd a b c)=true:=adX ⟨bK a 3,jJ a oo⟩ ⟨bK b 6,jJ b oo⟩ ⟨bK c 6,jJ c oo⟩ _ _
theorem aa3(a b c:Int):(Bd a b c).root.size<=12:=by
 have:∀i:Fin 3,(rX i.val).size<=12:=by decide
 exact this ⟨bK a 3,jJ a oo⟩
theorem aa4[bV]{s:BY}{p:aF}(hp:qp p=true)(hs:s.size<=600):(dR s p).2=0\/((dR s p).2=2/\(dR s p).1=aA):=by
 unfold dR;rw[if_neg (by simp[hp]),if_neg oo];split
 .exact .inr ⟨rfl,rfl⟩
 .exact .inl rfl
theorem Xx[bV]{s:BY}{p:aF}(hr:p.root.size<=12):(dR s p).1.size<=1200000000:=by
 unfold dR;split
 .show 0<=_;omega
 .split
  .show 0<=_;omega
  .rename_i hs;split
   .show 0<=_;omega
   .have h:=Di (s:=s) oo;have:=zh Xv p hr (depth (bH s)) true (bH s) h.1;show(tY p (depth (bH s)) true (bH s)).size<=_;omega
section
theorem TI(c:Int)(n:Nat)(w:WD)(h: -9223372036854775808<=c/\c<=9223372036854775807)(hn:1<=n/\n<=1000):Calls prog 14 #[.int .i64 c,.int .i64 (n:Int)] w fun e w'=>e=.returned (.int .i64 (bK c n:Int))/\w'=w:=by
 have hp:=Dz c n;have h1:¬((n:Int)=0):=oo;have h2:¬((n:Int) = -1):=oo;by_cases h0:c<0
 .rw[if_pos h0]at hp;have hp':Int.tmod (-(c+1)) (n:Int)=(bK c n:Int):=hp;go_in;go_wp2_with fail;go_ret;exact⟨rfl,rfl⟩
 .rw[if_neg h0]at hp;have hp':Int.tmod c (n:Int)=(bK c n:Int):=hp;go_in;go_wp2_with fail;go_ret;exact⟨rfl,rfl⟩
section
variable {P:Program} {ops:Array Oper} {Q:Exit->Act->WD->Prop} {md:Region.Mode} {S:WD->Prop}
def uI(P:Program)(ops:Array Oper)(S:WD->Prop)(o:Oper)(v:Av)(a:Act):Prop:=Region.wanted o (yielded ops a.tmps)=true/\∀w,S w->∃f args,(execOp a.eval o).run P w=.ok (.enter f args) w/\Calls P f args w fun e w'=>e=.returned v/\w'=w
theorem uI.same{o:Oper}{v:Av}{a a':Act}(h:uI P ops S o v a)(he:execOp a'.eval o=execOp a.eval o)(hw:Region.wanted o (yielded ops a'.tmps)=Region.wanted o (yielded ops a.tmps)):uI P ops S o v a':=by unfold uI at *;rw[he,hw];exact h
theorem uI.op{i:Nat}{o:Oper}{v:Av}{a:Act}(hi:ops[i]?=some o)(hy:uI P ops S o v a){K:Act->WD->Prop}{w:WD}(hS:S w)(h:K (a.put o.dst v) w):wpOp P ops Q i K a w:=by obtain⟨hw,hv⟩:=hy;obtain⟨f,args,h1,h2⟩:=hv w hS;unfold Go.wpOp;simp only[hi,hw,if_true,Oper.wp,h1,Oper.upon];refine .inl (h2.mono ?_);rintro e w' ⟨rfl,rfl⟩;exact h
theorem uI.beside{j:Nat}{oi oj:Oper}{v:Av}(hj:ops[j]?=some oj)(hap:oi.apart ops oj=true)(hsi:∀cs b,oi.op≠.select cs b)(hsj:∀cs b,oj.op≠.select cs b)
  (hQ:∀c a w,Q (.panic c) (a.put oi.dst v) w->Q (.panic c) a w) {K:Act->WD->Prop}{a:Act}{w:WD} (hy:uI P ops S oi v a) (h:wpOp P ops Q j K (a.put oi.dst v) w):
  wpOp P ops Q j (fun a' w'=>uI P ops S oi v a'/\K (a'.put oi.dst v) w') a w:=by
 obtain⟨h1,h2,h3⟩:=Oper.apart_spec hap;have kp:∀(a:Act),uI P ops S oi v a->∀u,uI P ops S oi v (a.put oj.dst u):=fun a hy u=>hy.same (execOp_put oi hsi a oj.dst u h3) (wanted_put oi a oj.dst u h3);have kd:∀d,uI P ops S oi v { a with defers:=d::a.defers }:=fun d=>hy.same rfl rfl;unfold wpOp at *;simp only[hj]at *;rw[wanted_put oj a oi.dst v h1]at h;by_cases hw:Region.wanted oj (yielded ops a.tmps)=true
 .rw[if_pos hw]at h⊢;rcases h with h|⟨ha,hl⟩
  .left;unfold Oper.wp at *;rw[execOp_put oj hsj a oi.dst v h1]at h;revert h
   cases(execOp a.eval oj).run P w with
   |ok n w'=>
    cases n<;>simp only[Oper.upon]<;>intro h
    case value u=>rw[Act.put_comm a v u h2]at h;exact⟨kp a hy u,h⟩
    case skip=>rw[Act.put_comm a v undef h2]at h;exact⟨kp a hy _,h⟩
    case defer d=>refine⟨kp _ (kd d) _,?_⟩;rw[<-Act.put_comm _ v undef h2,<-Act.put_defers];exact h
    case enter f args=>
     refine Calls.mono h fun e w2 he=>?_;cases e with
     |returned u=>exact⟨kp a hy u,by rw[<-Act.put_comm a v u h2];exact he⟩
     |panicked c=>exact hQ _ _ _ he
     |outgrown=>exact he
    case row row args=>exact Rows.mono h fun u w2 he=>⟨kp a hy u,by rw[<-Act.put_comm a v u h2];exact he⟩
    all_goals exact h
   |halt x w'=>cases x<;>simp only[Oper.upon]<;>intro h<;>first|exact h|exact hQ _ _ _ h
  .right;refine⟨?_,hl⟩;unfold Oper.asks at *;rw[execOp_put oj hsj a oi.dst v h1]at ha;exact ha
 .rw[if_neg hw]at h⊢;rw[Act.put_comm a v undef h2]at h;exact⟨kp a hy _,h⟩
theorem JM{i:Nat}{oi:Oper}{v:Av}(hi:ops[i]?=some oi)(hsel:∀(j:Nat) (o:Oper) cs b,ops[j]?=some o->o.op≠.select cs b)(hQ:∀c a w,Q (.panic c) (a.put oi.dst v) w->Q (.panic c) a w):
  ∀(fuel:Nat) (listed:Array Bool) (a:Act) (w:WD),
   (∀j oj,ops[j]?=some oj->j≠i->listed.getD j true=false->(∀e∈oj.after,Region.binds md e=true->e.on≠i)->oi.apart ops oj=true) ->
   i∈Region.ready md ops listed->uI P ops S oi v a->S w->wpAnyH P md ops Q S fuel (listed.setIfInBounds i true) (a.put oi.dst v) w->wpAnyH P md ops Q S (fuel+1) listed a w
 |0,listed,a,w,_,hr,hy,hS,H=>by
  refine⟨fun h=>(by rw[h]at hr;cases hr),fun j hj=>?_⟩;by_cases hji:j=i
  .subst hji;exact hy.op hi hS ⟨hS,H⟩
  .have:=ready_mono hj hji;rw[H.1]at this;cases this
 |fuel+1,listed,a,w,hfree,hr,hy,hS,H=>by
  refine⟨fun h=>(by rw[h]at hr;cases hr),fun j hj=>?_⟩;by_cases hji:j=i
  .subst hji;exact hy.op hi hS ⟨hS,H⟩
  .obtain⟨hjun,oj,hoj,hall⟩:=mem_ready.1 hj;have hnot:∀e∈oj.after,Region.binds md e=true->e.on≠i:=fun e he hb heq=>by
    have k1:=hall e he hb;have k0:=(mem_ready.1 hr).1;rw[heq]at k1;rcases Nat.lt_or_ge i listed.size with h'|h'
    .simp[h']at k0 k1;rw[k0]at k1;cases k1
    .simp[Array.getElem?_eq_none h']at k1
   refine wpOp_mono (fun a' w' h3=>⟨h3.2.1,?_⟩) (hy.beside hoj (hfree j oj hoj hji hjun hnot) (fun cs b=>hsel i oi cs b hi) (fun cs b=>hsel j oj cs b hoj) hQ (H.2 j (ready_mono hj hji)));refine JM hi hsel hQ fuel (listed.setIfInBounds j true) a' w' (fun k ok hk hki hun hno=>?_) (ready_mono hr (Ne.symm hji)) h3.1 h3.2.1 (by rw[Array.setIfInBounds_comm _ _ hji];exact h3.2.2);refine hfree k ok hk hki ?_ hno;by_cases hjk:j=k
   .subst hjk;exact hjun
   .rw[getD_set_ne true hjk]at hun;exact hun
end
theorem tkT{P:Program}{ops:Array Oper}{Q:Exit->Act->WD->Prop}{md:Region.Mode}{S:WD->Prop}(i:Nat){oi:Oper}{v:Av}{fuel:Nat}{listed:Array Bool}{a a':Act}{w:WD}
  (hi:ops[i]?=some oi) (hS:S w) (f:FuncId) (args:Array Av) (hy:∀w,S w->(execOp a.eval oi).run P w=.ok (.enter f args) w) (hc:∀w,S w->Calls P f args w fun e w'=>e=.returned v/\w'=w)
  (h:wpAnyH P md ops Q S fuel (listed.setIfInBounds i true) a' w) (hs:Region.noSelect ops=true:=by kernel_rfl) (hf:Region.free md ops listed i=true:=by kernel_rfl) (hr:(Region.ready md ops listed).contains i=true:=by kernel_rfl)
  (hw:Region.wanted oi (yielded ops a.tmps)=true:=by kernel_rfl)
  (hQ:∀c a w,Q (.panic c) (a.put oi.dst v) w->Q (.panic c) a w:=by exact fun _ _ _ h=>h)
  (ha:a.put oi.dst v=a':=by(try simp only[List.getElem_toArray]);(try simp only[List.getElem_cons_succ]);(try simp only[List.getElem_cons_zero]);(try simp only[Act.put]);(try simp only[List.setIfInBounds_toArray]);(try simp only[List.set_cons_succ]);(try simp only[List.set_cons_zero]);all_goals with_reducible rfl):wpAnyH P md ops Q S (fuel+1) listed a w:=by
 subst ha;exact JM hi (Region.noSelect_spec hs) hQ fuel listed a w (Region.free_spec hi hf) (by simpa using hr) ⟨hw,fun w hSw=>⟨f,args,hy w hSw,hc w hSw⟩⟩ hS h
end
def DC(x y z:Int):Av:=.agg #[.int .i64 x,.int .i64 y,.int .i64 z]
def W3(w:WD)(b:Nat)(x y z:Int):Prop:=w.heap[b]?=some (.cells #[.int .i64 x,.int .i64 y,.int .i64 z] 177 (0,0))
theorem W3.cs{w:WD}{b:Nat}{x y z:Int}(h:W3 w b x y z):w.cell? ⟨b,0,none⟩=some (.int .i64 x)/\w.cell? ⟨b,1,none⟩=some (.int .i64 y)/\w.cell? ⟨b,2,none⟩=some (.int .i64 z):=by have h':w.heap[b]?=_:=h;refine⟨?_,?_,?_⟩<;>(unfold World.cell?;rw[h'];rfl)
theorem W3.lt{w:WD}{b:Nat}{x y z:Int}(h:W3 w b x y z):b<w.heap.size:=(Ay h)
theorem W3.fz{w:WD}{b:Nat}{x y z:Int}(h:W3 w b x y z)(k:Nat):w.frozen? ⟨b,k,none⟩=false:=by have h':w.heap[b]?=_:=h;unfold World.frozen?;rw[h'];simp
theorem W3.alloc{w:WD}{b:Nat}{x y z:Int}(h:W3 w b x y z)(o:Obj):W3 (w.alloc o) b x y z:=by unfold W3;rw[Below.heap_alloc _ _ _ h.lt];exact h
theorem W3.new(w:WD)(x y z:Int):W3 (w.alloc (.cells #[.int .i64 x,.int .i64 y,.int .i64 z] 177)) w.heap.size x y z:=heap_alloc_new w _
theorem ajI(x y z x' y' z':Int)(w:WD)(h1:0<=x/\x<=1000000)(h2:0<=y/\y<=1000000)(h3:0<=z/\z<=1000000)(k1:0<=x'/\x'<=1000000)(k2:0<=y'/\y'<=1000000)(k3:0<=z'/\z'<=1000000):
  Calls prog 225 #[DC x y z,DC x' y' z'] w fun ex w'=>ex=.returned (DC (x+x') (y+y') (z+z'))/\Below w.heap.size w w':=by
 unfold DC;have A0:Hid (W3 (((w.alloc (.cells #[.int .i64 x,.int .i64 y,.int .i64 z] 177)).alloc (.cells #[.int .i64 x',.int .i64 y',.int .i64 z'] 177)).alloc (.cells #[.int .i64 0,.int .i64 0,.int .i64 0] 177)) w.heap.size x y z):=((W3.new w x y z).alloc _).alloc _;have A1:Hid (W3 (((w.alloc (.cells #[.int .i64 x,.int .i64 y,.int .i64 z] 177)).alloc (.cells #[.int .i64 x',.int .i64 y',.int .i64 z'] 177)).alloc (.cells #[.int .i64 0,.int .i64 0,.int .i64 0] 177)) (w.heap.size+1) x' y' z'):=by have:=(W3.new (w.alloc (.cells #[.int .i64 x,.int .i64 y,.int .i64 z] 177)) x' y' z').alloc (.cells #[.int .i64 0,.int .i64 0,.int .i64 0] 177);show W3 _ _ _ _ _;simpa using this
 have A2:Hid (W3 (((w.alloc (.cells #[.int .i64 x,.int .i64 y,.int .i64 z] 177)).alloc (.cells #[.int .i64 x',.int .i64 y',.int .i64 z'] 177)).alloc (.cells #[.int .i64 0,.int .i64 0,.int .i64 0] 177)) (w.heap.size+1+1) 0 0 0):=by
  have h:=W3.new ((w.alloc (.cells #[.int .i64 x,.int .i64 y,.int .i64 z] 177)).alloc (.cells #[.int .i64 x',.int .i64 y',.int .i64 z'] 177)) 0 0 0;have e:((w.alloc (.cells #[.int .i64 x,.int .i64 y,.int .i64 z] 177)).alloc (.cells #[.int .i64 x',.int .i64 y',.int .i64 z'] 177)).heap.size=w.heap.size+1+1:=by simp
  rw[e]at h;exact h
 have B0:Hid (Below w.heap.size w (((w.alloc (.cells #[.int .i64 x,.int .i64 y,.int .i64 z] 177)).alloc (.cells #[.int .i64 x',.int .i64 y',.int .i64 z'] 177)).alloc (.cells #[.int .i64 0,.int .i64 0,.int .i64 0] 177))):=((Ax.alloc nl _).alloc Ab _).alloc An _;go_in;go_wp2_with fail;generalize((w.alloc (.cells #[.int .i64 x,.int .i64 y,.int .i64 z] 177)).alloc (.cells #[.int .i64 x',.int .i64 y',.int .i64 z'] 177)).alloc (.cells #[.int .i64 0,.int .i64 0,.int .i64 0] 177)=w3 at *;obtain⟨b,Hb⟩:=Nm w.heap.size;rw[Hb.o]at A0 A1 A2 B0;rw[Hb.o];obtain⟨a0,a1,a2⟩:=A0.o.cs;obtain⟨c0,c1,c2⟩:=A1.o.cs;obtain⟨r0,r1,r2⟩:=A2.o.cs;have f0:=A0.o.fz 0;have f1:=A0.o.fz 1;have f2:=A0.o.fz 2;have g0:=A2.o.fz 0;have g1:=A2.o.fz 1;have g2:=A2.o.fz 2;refine wp_loop_rounds 4 ?_;rw[rounds_succ]
 go_wp2_with fail;go_region
 go_wp2_with fail;rw[rounds_succ];go_wp2_with fail;go_region
 go_wp2_with fail;rw[rounds_succ];go_wp2_with fail;go_region
 go_wp2_with fail;rw[rounds_succ];go_wp2_with fail;refine bodyPost_ret (v:=.agg #[.int .i64 (x+x'),.int .i64 (y+y'),.int .i64 (z+z')]) (by simp[results,Tryz.results225,go_sem,r0,r1,r2]) rfl ?_;refine⟨rfl,?_⟩;rw[Hb.o];have e:b<=b+1+1:=oo;exact((((((B0.o.setCell (p:=⟨b,0,none⟩) nl _).setCell (p:=⟨b,1,none⟩) nl _).setCell (p:=⟨b,2,none⟩) nl _).setCell (p:=⟨b+1+1,0,none⟩) e _).setCell (p:=⟨b+1+1,1,none⟩) e _).setCell (p:=⟨b+1+1,2,none⟩) e _).drew.drew.drew
theorem below_drewN{b:Nat}{w w':WD}(h:Below b w w')(n:Nat):Below b w (w'.drewN n):=⟨h.os,h.tape,h.output,h.size,h.block⟩
def Pn(x y z x' y' z':Int):Int:=if Lib.compareInt x x'=0 then(if Lib.compareInt y y'=0 then Lib.compareInt z z' else Lib.compareInt y y') else Lib.compareInt x x'
theorem ajJ(x y z x' y' z':Int)(b b':Nat)(w:WD)(h1:W3 w b x y z)(h2:W3 w b' x' y' z'):
  Calls prog 227 #[.slice (some ⟨b,0,none⟩) 3 3,.slice (some ⟨b',0,none⟩) 3 3] w fun ex w'=>ex=.returned (.int .i64 (Pn x y z x' y' z'))/\w'=w:=by
 obtain⟨a0,a1,a2⟩:=h1.cs;obtain⟨c0,c1,c2⟩:=h2.cs;obtain⟨u,Hu⟩:=Nm (Lib.compareInt x x');obtain⟨v,Hv⟩:=Nm (Lib.compareInt y y');obtain⟨t,Ht⟩:=Nm (Lib.compareInt z z');have HR:Hid (Pn x y z x' y' z'=if u=0 then(if v=0 then t else v) else u):=by show _=_;unfold Pn;rw[Hu.o,Hv.o,Ht.o]
 obtain⟨r,Hr⟩:=Nm ((if u=0 then(if v=0 then t else v) else u));rw[HR.o,Hr.o];go_in;go_wp2_with fail;refine wp_loop_rounds 4 ?_;rw[rounds_succ];go_wp2_with fail;refine(Tryz.cmp_Compare_int x x' _).mono ?_;rw[Hu.o];rintro e wq ⟨rfl,hwq⟩;rw[hwq];clear hwq;by_cases hu:u=0
 .subst hu;go_wp2_with fail;rw[rounds_succ];go_wp2_with fail;refine(Tryz.cmp_Compare_int y y' _).mono ?_;rw[Hv.o];rintro e wq ⟨rfl,hwq⟩;rw[hwq];clear hwq;by_cases hv:v=0
  .subst hv;have HE:Hid (t=r):=by have:=Hr.o;show _=_;simpa using this
   go_wp2_with fail;rw[rounds_succ];go_wp2_with fail;refine(Tryz.cmp_Compare_int z z' _).mono ?_;rw[Ht.o];rintro e wq ⟨rfl,hwq⟩;rw[hwq];clear hwq;by_cases ht:t=0
   .subst ht;go_wp2_with fail;rw[rounds_succ];go_wp2_with fail;go_ret;exact⟨by rw[<-HE.o];rfl,rfl⟩
   .have e1:(t==0)=false:=by simpa using ht
    go_wp2_with fail;go_ret;exact⟨by rw[<-HE.o];rfl,rfl⟩
  .have HE:Hid (v=r):=by have:=Hr.o;show _=_;simpa[hv]using this
   have e1:(v==0)=false:=by simpa using hv
   go_wp2_with fail;go_ret;exact⟨by rw[<-HE.o];rfl,rfl⟩
 .have HE:Hid (u=r):=by have:=Hr.o;show _=_;simpa[hu]using this
  have e1:(u==0)=false:=by simpa using hu
  go_wp2_with fail;go_ret;exact⟨by rw[<-HE.o];rfl,rfl⟩
theorem Po(x y z x' y' z':Int)(w:WD):
  Calls prog 159 #[DC x y z,DC x' y' z'] w fun ex w'=>ex=.returned (.int .i64 (Pn x y z x' y' z'))/\Below w.heap.size w w':=by
 unfold DC;have A0:Hid (W3 ((w.alloc (.cells #[.int .i64 x,.int .i64 y,.int .i64 z] 177)).alloc (.cells #[.int .i64 x',.int .i64 y',.int .i64 z'] 177)) w.heap.size x y z):=(W3.new w x y z).alloc _;have A1:Hid (W3 ((w.alloc (.cells #[.int .i64 x,.int .i64 y,.int .i64 z] 177)).alloc (.cells #[.int .i64 x',.int .i64 y',.int .i64 z'] 177)) (w.heap.size+1) x' y' z'):=by have:=W3.new (w.alloc (.cells #[.int .i64 x,.int .i64 y,.int .i64 z] 177)) x' y' z';show W3 _ _ _ _ _;simpa using this
 have B0:Hid (Below w.heap.size w ((w.alloc (.cells #[.int .i64 x,.int .i64 y,.int .i64 z] 177)).alloc (.cells #[.int .i64 x',.int .i64 y',.int .i64 z'] 177))):=(Ax.alloc nl _).alloc Ab _;go_in;go_wp2_with fail;generalize(w.alloc (.cells #[.int .i64 x,.int .i64 y,.int .i64 z] 177)).alloc (.cells #[.int .i64 x',.int .i64 y',.int .i64 z'] 177)=w2 at *;go_quiet ((go_at_call 227;exact Calls.quiet_of_same (ajJ x y z x' y' z' _ _ _ A0.o A1.o)))
 go_wp2_with fail;go_ret;exact⟨rfl,below_drewN B0.o _⟩
theorem wQ(w:WD)(o:Obj):Hid (W3 ((w.alloc o).alloc (.cells #[.int .i64 0,.int .i64 0,.int .i64 0] 177)) (w.heap.size+1) 0 0 0):=by have:=W3.new (w.alloc o) 0 0 0;show W3 _ _ _ _ _;simpa using this
theorem Gf(w:WD)(o:Obj):Hid (Below w.heap.size w ((w.alloc o).alloc (.cells #[.int .i64 0,.int .i64 0,.int .i64 0] 177))):=(Ax.alloc nl _).alloc Ab _
theorem jR{b c:Nat}{w w':WD}(h:Below b w w')(e:b<=c)(x y z:Av):Below b w (((w'.setCell ⟨c,0,none⟩ x).setCell ⟨c,1,none⟩ y).setCell ⟨c,2,none⟩ z):=((h.setCell (p:=⟨c,0,none⟩) e _).setCell (p:=⟨c,1,none⟩) e _).setCell (p:=⟨c,2,none⟩) e _
theorem agU(nm:BY)(w:WD):
  Calls prog 326 #[.agg #[.string nm]] w fun ex w'=>ex=.returned (DC 0 0 1)/\Below w.heap.size w w':=by
 unfold DC;have A0:=wQ w (.cells #[.string nm] 309);have B0:=Gf w (.cells #[.string nm] 309);go_in;go_upto_region 1 with fail
 generalize(w.alloc (.cells #[.string nm] 309)).alloc (.cells #[.int .i64 0,.int .i64 0,.int .i64 0] 177)=w2 at *;obtain⟨r0,r1,r2⟩:=A0.o.cs;have f0:=A0.o.fz 0;have f1:=A0.o.fz 1;have f2:=A0.o.fz 2;go_wp2_with fail;refine bodyPost_ret (v:=.agg #[.int .i64 0,.int .i64 0,.int .i64 1]) (by simp[results,Tryz.results326,go_sem,r0,r1,r2]) rfl ?_;exact⟨rfl,jR B0.o oo _ _ _⟩
theorem ajK(nm:BY)(w:WD):
  Calls prog 335 #[.agg #[.string nm]] w fun ex w'=>ex=.returned (DC 1 0 0)/\Below w.heap.size w w':=by
 unfold DC;have A0:=wQ w (.cells #[.string nm] 332);have B0:=Gf w (.cells #[.string nm] 332);go_in;go_upto_region 1 with fail
 generalize(w.alloc (.cells #[.string nm] 332)).alloc (.cells #[.int .i64 0,.int .i64 0,.int .i64 0] 177)=w2 at *;obtain⟨r0,r1,r2⟩:=A0.o.cs;have f0:=A0.o.fz 0;have f1:=A0.o.fz 1;have f2:=A0.o.fz 2;go_wp2_with fail;refine bodyPost_ret (v:=.agg #[.int .i64 1,.int .i64 0,.int .i64 0]) (by simp[results,Tryz.results335,go_sem,r0,r1,r2]) rfl ?_;exact⟨rfl,jR B0.o oo _ _ _⟩
theorem aa5(nm:BY)(w:WD):
  Calls prog 339 #[.agg #[.string nm]] w fun ex w'=>ex=.returned (DC 0 1 0)/\Below w.heap.size w w':=by
 unfold DC;have A0:=wQ w (.cells #[.string nm] 333);have B0:=Gf w (.cells #[.string nm] 333);go_in;go_upto_region 1 with fail
 generalize(w.alloc (.cells #[.string nm] 333)).alloc (.cells #[.int .i64 0,.int .i64 0,.int .i64 0] 177)=w2 at *;obtain⟨r0,r1,r2⟩:=A0.o.cs;have f0:=A0.o.fz 0;have f1:=A0.o.fz 1;have f2:=A0.o.fz 2;go_wp2_with fail;refine bodyPost_ret (v:=.agg #[.int .i64 0,.int .i64 1,.int .i64 0]) (by simp[results,Tryz.results339,go_sem,r0,r1,r2]) rfl ?_;exact⟨rfl,jR B0.o oo _ _ _⟩
theorem adY(w:WD):
  Calls prog 332 #[.agg #[]] w fun ex w'=>ex=.returned (DC 0 0 0)/\Below w.heap.size w w':=by
 unfold DC;have A0:=wQ w (.cells #[] 311);have B0:=Gf w (.cells #[] 311);go_in;go_upto_region 1 with fail
 generalize(w.alloc (.cells #[] 311)).alloc (.cells #[.int .i64 0,.int .i64 0,.int .i64 0] 177)=w2 at *;obtain⟨r0,r1,r2⟩:=A0.o.cs;have f0:=A0.o.fz 0;have f1:=A0.o.fz 1;have f2:=A0.o.fz 2;go_wp2_with fail;refine bodyPost_ret (v:=.agg #[.int .i64 0,.int .i64 0,.int .i64 0]) (by simp[results,Tryz.results332,go_sem,r0,r1,r2]) rfl ?_;exact⟨rfl,jR B0.o oo _ _ _⟩
theorem agV (W : WD) : (method 503 311 (.agg #[]) "rinse/selectors.weight").run prog W = .ok (332, .agg #[]) W := by kernel_rfl
theorem ajL (nm : BY) (W : WD) : (method 503 309 (.agg #[.string nm]) "rinse/selectors.weight").run prog W = .ok (326, .agg #[.string nm]) W := by kernel_rfl
theorem alH (nm : BY) (W : WD) : (method 503 332 (.agg #[.string nm]) "rinse/selectors.weight").run prog W = .ok (335, .agg #[.string nm]) W := by kernel_rfl
theorem adZ (nm : BY) (W : WD) : (method 503 333 (.agg #[.string nm]) "rinse/selectors.weight").run prog W = .ok (339, .agg #[.string nm]) W := by kernel_rfl
def pwt(k:Nat)(nm:BY):Nat×Nat×Nat:=if k=116 then(if nm=aA then(0,0,0) else(0,0,1)) else if k=35 then(1,0,0) else(0,1,0)
def Pq(x:Nat×Nat×Nat):Av:=DC (x.1:Int) (x.2.1:Int) (x.2.2:Int)
theorem agW(k:Nat)(nm how v:BY)(lv:Av)(pl:Nat)(hk:k=116\/k=35\/k=46):
  ∃ T u K rcv, fE k nm how v lv pl = .iface T u ∧ (∀ W : WD, (method 503 T u "rinse/selectors.weight").run prog W = .ok (K, rcv) W) ∧ (∀ (args : Array Av) (W : WD), (callFunc K args).run prog W = .ok (.enter K args) W) ∧
   ∀w',Calls prog K #[rcv] w' fun e w''=>e=.returned (Pq (pwt k nm))/\Below w'.heap.size w' w'':=by
 unfold fE pwt;rcases hk with rfl|rfl|rfl
 .rw[if_pos rfl,if_pos rfl];by_cases e:nm=aA
  .rw[if_pos e,if_pos e];exact⟨_,_,_,_,rfl,agV,fun _ _=>rfl,fun w'=>adY w'⟩
  .rw[if_neg e,if_neg e];exact⟨_,_,_,_,rfl,ajL nm,fun _ _=>rfl,fun w'=>agU nm w'⟩
 .rw[if_neg (by decide),if_pos rfl,if_neg (by decide),if_pos rfl];exact⟨_,_,_,_,rfl,alH nm,fun _ _=>rfl,fun w'=>ajK nm w'⟩
 .rw[if_neg (by decide),if_neg (by decide),if_pos rfl,if_neg (by decide),if_neg (by decide)];exact⟨_,_,_,_,rfl,adZ nm,fun _ _=>rfl,fun w'=>aa5 nm w'⟩
def Xy(c:Int):Bool:=(decide (97<=c)&&decide (c<=122))||((decide (48<=c)&&decide (c<=57))||c==45)
theorem ad1{s:BY}{k:Nat}(h:k<s.size):Xy (pk s k)=oC s[k]:=by
 rw[YK h];unfold oC Xy;have e1:(s[k]==45)=((s[k].toNat:Int)==45):=by
  rw[Bool.eq_iff_iff];simp;constructor
  .rintro h;rw[h];rfl
  .intro h;exact UInt8.toNat_inj.1 (by have:s[k].toNat=45:=oo;rw[this];rfl)
 rw[e1];have e2:∀(n:Nat),decide (n<=s[k].toNat)=decide ((n:Int)<=(s[k].toNat:Int)):=fun n=>by simp
 have e3:∀(n:Nat),decide (s[k].toNat<=n)=decide ((s[k].toNat:Int)<=(n:Int)):=fun n=>by simp
 rw[e2,e2,e3,e3,Bool.or_assoc];rfl
theorem DF(c:Int)(w:WD):Calls prog 224 #[.int .u8 c] w fun e w'=>e=.returned (.bool (Xy c))/\w'=w:=by
 by_cases h1:97<=c
 .by_cases h2:c<=122
  .have HV:Hid (Xy c=true):=by show _=_;simp[Xy,h1,h2]
   go_in;go_wp2_with fail;go_ret;exact⟨aC HV.o.symm,rfl⟩
  .have h2':122<c:=oo;have h3:48<=c:=oo;have h4:57<c:=oo;have h5:(c==45)=false:=by simp;omega
   have HV:Hid (Xy c=false):=by show _=_;unfold Xy;rw[h5,decide_eq_false h2,decide_eq_false (show ¬c<=57 by omega)];simp
   clear h2;go_in;go_wp2_with fail;go_ret;exact⟨aC (by rw[HV.o,decide_eq_false (show ¬c<=122 by omega),decide_eq_false (show ¬c<=57 by omega)];rfl),rfl⟩
 .have h1':c<97:=oo;by_cases h3:48<=c
  .by_cases h4:c<=57
   .have HV:Hid (Xy c=true):=by show _=_;simp[Xy,h3,h4]
    clear h1;go_in;go_wp2_with fail;go_ret;exact⟨aC HV.o.symm,rfl⟩
   .have h4':57<c:=oo;have h5:(c==45)=false:=by simp;omega
    have HV:Hid (Xy c=false):=by show _=_;unfold Xy;rw[h5,decide_eq_false h1,decide_eq_false h4];simp
    clear h1 h4;go_in;go_wp2_with fail;go_ret;exact⟨aC (by rw[HV.o,decide_eq_false (show ¬c<=57 by omega)]),rfl⟩
  .have h3':c<48:=oo;have HV:Hid (Xy c=(c==45)):=by show _=_;unfold Xy;rw[decide_eq_false h1,decide_eq_false h3];simp
   clear h1 h3;go_in;go_wp2_with fail;go_ret;exact⟨aC HV.o.symm,rfl⟩
def uU(s:BY):Bool:=nameP s&&!decide (s=aA)
theorem DI(s:BY)(w:WD)(hs:s.size<=maxLen):Calls prog 153 #[.string s] w fun e w'=>e=.returned (.bool (uU s))/\w'=w:=by
 unfold maxLen at hs;cases h0:(s.toList==([]:List UInt8))
 .have n0:¬s=aA:=by rw[ay]at h0;simpa[aA]using h0
  have Lm:Hid (uU s=nameP s):=by show _=_;unfold uU;rw[decide_eq_false n0];simp
  clear n0;by_cases h12:12<s.size
  .have amW:(12:Int)<(s.size:Int):=oo;have HV:Hid (uU s=false):=by show _=_;rw[Lm.o];unfold nameP;rw[decide_eq_false (show ¬s.size<=12 by omega)];simp
   go_in;go_wp2_with fail;go_ret;exact⟨aC HV.o.symm,rfl⟩
  .have amW:(s.size:Int)<=12:=oo;have HV1:Hid (uU s=allB oC s):=by show _=_;rw[Lm.o];unfold nameP allB;rw[decide_eq_true (show s.size<=12 by omega)];simp
   go_in;go_wp2_with fail;go_loopg[13] s.size (fun g v wr=>∃k:Nat,k+g=s.size/\v=.int .i64 (k:Int)/\Aside (rJ oC s k=true/\wr=w));case atStart=>exact⟨0,oo,rfl,rfl,rfl⟩
   case round=>
    obtain⟨k,hk,rfl,hA⟩:=hrel;have HA:=hid hA.o.1;obtain rfl:=hA.o.2;clear hA;by_cases hlt:k<s.size
    .have h1:(k:Int)<(s.size:Int):=oo;have hix:=gQ s k hlt;have hpb:=ad1 hlt;obtain⟨z,Hz⟩:=Nm (oC s[k]);have HPB:Hid (Xy (pk s k)=z):=by rw[<-Hz.o];exact hpb
     clear hpb;go_wp2_with fail;refine(DF _ _).mono ?_;rw[HPB.o];rintro e w1 ⟨rfl,rfl⟩;cases z
     .have HV:Hid (uU s=false):=by show _=_;rw[HV1.o];exact x9 oC hlt Hz.o
      go_wp2_with fail;go_ret;exact⟨aC HV.o.symm,rfl⟩
     .have HN:Hid (rJ oC s (k+1)=true):=by show _=_;rw[vU oC hlt,HA.o,Hz.o];rfl
      go_wp2_with fail;go_roundg(s.size-(k+1));case measure=>omega
      case rel=>exact⟨k+1,oo,by congr 1,HN.o,rfl⟩
    .have h1:(s.size:Int)<=(k:Int):=oo;have HV:Hid (uU s=true):=by
      show _=_;rw[HV1.o,<-Eu];have:k=s.size:=oo;rw[<-this];exact HA.o
     go_wp2_with fail;go_ret;exact⟨aC HV.o.symm,rfl⟩
 .have n0:s=aA:=by rw[ay]at h0;simpa[aA]using h0
  have HV:Hid (uU s=false):=by show _=_;unfold uU;rw[decide_eq_true n0];simp
  clear n0;go_in;go_wp2_with fail;go_ret;exact⟨aC HV.o.symm,rfl⟩
def Xz(q:Int)(i:Nat):Bool:=if i=0 then q == -1 else decide (0<=q)&&decide (q<i)
theorem XB(q:Int)(i:Nat)(w:WD):Calls prog 89 #[.int .i64 q,.int .i64 (i:Int)] w fun e w'=>e=.returned (.bool (Xz q i))/\w'=w:=by
 by_cases h0:i=0
 .subst h0;have hz:(((0:Nat):Int)==0)=true:=rfl;have HV:Hid (Xz q 0=(q == -1)):=rfl;go_in;go_wp2_with fail;go_ret;exact⟨aC HV.o.symm,rfl⟩
 .have hz:((i:Int)==0)=false:=by simp;omega
  by_cases h1:0<=q
  .have HV:Hid (Xz q i=decide (q<(i:Int))):=by show _=_;unfold Xz;rw[if_neg h0,decide_eq_true h1];rfl
   clear h0;go_in;go_wp2_with fail;go_ret;exact⟨aC HV.o.symm,rfl⟩
  .have h1':q<0:=oo;have HV:Hid (Xz q i=false):=by show _=_;unfold Xz;rw[if_neg h0,decide_eq_false h1];rfl
   clear h0 h1;go_in;go_wp2_with fail;go_ret;exact⟨aC HV.o.symm,rfl⟩
theorem alI{s:BY}{k:Nat}(h:k<s.size):(s[k]==32)=(pk s k==32):=by
 rw[YK h,Bool.eq_iff_iff];simp;constructor
 .rintro h;rw[h];rfl
 .intro h;exact UInt8.toNat_inj.1 (by have:s[k].toNat=32:=oo;rw[this];rfl)
theorem L6(s:BY)(w:WD)(hs:s.size<=maxLen):Calls prog 154 #[.string s] w fun e w'=>e=.returned (.bool (dK s))/\w'=w:=by
 unfold maxLen at hs;by_cases h24:24<s.size
 .have amX:(24:Int)<(s.size:Int):=oo;have HV:Hid (dK s=false):=by show _=_;unfold dK;rw[decide_eq_false (show ¬s.size<=24 by omega)];simp
  go_in;go_wp2_with fail;go_ret;exact⟨aC HV.o.symm,rfl⟩
 .have amX:(s.size:Int)<=24:=oo;have HV1:Hid (dK s=allB (fun c=>oC c||c==32) s):=by show _=_;unfold dK allB;rw[decide_eq_true (show s.size<=24 by omega)];simp
  go_in;go_wp2_with fail;go_loopg[9] s.size (fun g v wr=>∃k:Nat,k+g=s.size/\v=.int .i64 (k:Int)/\Aside (rJ (fun c=>oC c||c==32) s k=true/\wr=w));case atStart=>exact⟨0,oo,rfl,rfl,rfl⟩
  case round=>
   obtain⟨k,hk,rfl,hA⟩:=hrel;have HA:=hid hA.o.1;obtain rfl:=hA.o.2;clear hA;by_cases hlt:k<s.size
   .have h1:(k:Int)<(s.size:Int):=oo;have hix:=gQ s k hlt;obtain⟨z,Hz⟩:=Nm (oC s[k]);have HPB:Hid (Xy (pk s k)=z):=by rw[<-Hz.o];exact ad1 hlt
    have HSP:Hid ((s[k]==32)=(pk s k==32)):=alI hlt;cases hsp:(pk s k != 32)
    .have HN:Hid (rJ (fun c=>oC c||c==32) s (k+1)=true):=by
      show _=_;have h32:(pk s k==32)=true:=by simpa using hsp
      rw[vU _ hlt,HA.o,HSP.o,h32];simp
     go_wp2_with fail;go_roundg(s.size-(k+1));case measure=>omega
     case rel=>exact⟨k+1,oo,by congr 1,HN.o,rfl⟩
    .have h32:(pk s k==32)=false:=by simpa using hsp
     have H32:=hid h32;clear h32;go_wp2_with fail;refine(DF _ _).mono ?_;rw[HPB.o];rintro e w1 ⟨rfl,rfl⟩;cases z
     .have HV:Hid (dK s=false):=by show _=_;rw[HV1.o];exact x9 _ hlt (by rw[Hz.o,HSP.o,H32.o];rfl)
      go_wp2_with fail;go_ret;exact⟨aC HV.o.symm,rfl⟩
     .have HN:Hid (rJ (fun c=>oC c||c==32) s (k+1)=true):=by show _=_;rw[vU _ hlt,HA.o,Hz.o];rfl
      go_wp2_with fail;go_roundg(s.size-(k+1));case measure=>omega
      case rel=>exact⟨k+1,oo,by congr 1,HN.o,rfl⟩
   .have h1:(s.size:Int)<=(k:Int):=oo;have HV:Hid (dK s=true):=by
     show _=_;rw[HV1.o,<-Eu];have:k=s.size:=oo;rw[<-this];exact HA.o
    go_wp2_with fail;go_ret;exact⟨aC HV.o.symm,rfl⟩
def XE(w:WD)(g:Nat)(x:Elem)(cv av:Av):Prop:=w.heap[g]?=some (.cells #[.int .i64 x.parent,.string x.tag,.string x.id,cv,av] 35 (0,0))
theorem XE.cs{w:WD}{g:Nat}{x:Elem}{cv av:Av}(h:XE w g x cv av):w.cell? ⟨g,0,none⟩=some (.int .i64 x.parent)/\w.cell? ⟨g,1,none⟩=some (.string x.tag)/\w.cell? ⟨g,2,none⟩=some (.string x.id)/\w.cell? ⟨g,3,none⟩=some cv/\w.cell? ⟨g,4,none⟩=some av:=by refine⟨?_,?_,?_,?_,?_⟩<;>(unfold World.cell?;rw[h];rfl)
theorem TK{α:Type}(f:α->Bool)(l:List α)(k:Nat)(h:k<l.length)(h1:(l.take k).all f=true)(h2:f l[k]=true):(l.take (k+1)).all f=true:=by rw[List.take_succ_eq_append_getElem h,List.all_append,h1];simp[h2]
theorem XC{α:Type}(f:α->Bool)(l:List α)(k:Nat)(h:k<l.length)(h2:f l[k]=false):l.all f=false:=by rw[List.all_eq_false];exact⟨l[k],List.getElem_mem _,by simp[h2]⟩
def TL(x:Elem):Bool:=uU x.tag&&nameP x.id&&decide (x.classes.length<=4)&&decide (x.attrs.length<=4)&&x.classes.all uU&&x.attrs.all (fun a=>uU a.1&&dK a.2)
theorem agX(a:BY×BY):aay a=(uU a.1&&dK a.2):=by unfold aay uU;cases nameP a.1<;>cases dK a.2<;>simp
theorem TM(i:Nat)(x:Elem):xC i x=(Wi i x&&TL x):=by have e:(fun a=>uU a.1&&dK a.2)=aay:=funext fun a=>(agX a).symm;rw[RJ];unfold acW TL uU;rw[show(fun a:BY×BY=>(nameP a.1&&!decide (a.1=aA))&&dK a.2)=aay from e];show _=(Wi i x&&(nameP x.tag&&!decide (x.tag=aA)&&nameP x.id&&decide (x.classes.length<=4)&&decide (x.attrs.length<=4)&&x.classes.all acV&&x.attrs.all aay));cases Wi i x<;>simp
theorem ad2(s:BY):nameP s=(decide (s=aA)||uU s):=by
 unfold uU;by_cases h:s=aA
 .subst h;rfl
 .simp[h]
theorem ad3(s:BY):(s.toList != ([]:List UInt8)) = !decide (s=aA):=by rw[bne,ay];rfl
theorem alJ(l:List UInt8)(h:¬l=[]):l.isEmpty=false:=by
 cases l with
 |nil=>exact absurd rfl h
 |cons a b=>rfl
theorem agY(s:BY)(h:s.toList=[]):nameP s=true:=by
 have e:=ad3 s;rw[h]at e;have e2:decide (s=aA)=true:=by
  cases hd:decide (s=aA)
  .rw[hd]at e;exact absurd e (by decide)
  .rfl
 rw[ad2,e2];rfl
theorem agZ(s:BY)(h:¬s.toList=[]):nameP s=uU s:=by have e2:decide (s=aA)=false:=decide_eq_false (by intro e;apply h;have h2:=ad3 s;rw[decide_eq_true e]at h2;simpa using h2);rw[ad2,e2];rfl
def XA(w:WD)(g:Nat)(s:BY×BY):Prop:=w.heap[g]?=some (.cells #[.string s.1,.string s.2] 96 (0,0))
theorem XA.cs{w:WD}{g:Nat}{s:BY×BY}(h:XA w g s):w.cell? ⟨g,0,none⟩=some (.string s.1)/\w.cell? ⟨g,1,none⟩=some (.string s.2):=by refine⟨?_,?_⟩<;>(unfold World.cell?;rw[h];rfl)
theorem ad4(B:Nat)(x:Elem)(cv av:Av)(w:WD)(hcl:SG eX 1 (fun b=>b<B) w cv x.classes)(hat:SG qH 2 (fun b=>b<B) w av x.attrs)(hts:x.tag.size<=4194304)(his:x.id.size<=4194304)(hB:B<=w.heap.size):
  Calls prog 90 #[.agg #[.int .i64 x.parent,.string x.tag,.string x.id,cv,av]] w fun e w'=>e=.returned (.bool (TL x))/\Below w.heap.size w w':=by
 obtain⟨ca,cc,rfl⟩:=hcl.form;obtain⟨aa,ac,rfl⟩:=hat.form;have alK:=hcl.len;have alL:=hat.len;have X1:Hid (XE (w.alloc (.cells #[.int .i64 x.parent,.string x.tag,.string x.id,.slice ca x.classes.length cc,.slice aa x.attrs.length ac] 35)) w.heap.size x (.slice ca x.classes.length cc) (.slice aa x.attrs.length ac)):=heap_alloc_new w _;have B1:Hid (Below w.heap.size w (w.alloc (.cells #[.int .i64 x.parent,.string x.tag,.string x.id,.slice ca x.classes.length cc,.slice aa x.attrs.length ac] 35))):=Ax.alloc nl _;have C1:=hid (hcl.below eX.fair B1.o hB)
 have A1:=hid (hat.below qH.fair B1.o hB);clear hcl hat;go_in;go_upto_region 1 with fail
 generalize w.alloc (.cells #[.int .i64 x.parent,.string x.tag,.string x.id,.slice ca x.classes.length cc,.slice aa x.attrs.length ac] 35)=w2 at *;obtain⟨gx,Hgx⟩:=Nm w.heap.size;have X2:Hid (XE w2 gx x (.slice ca x.classes.length cc) (.slice aa x.attrs.length ac)):=by rw[<-Hgx.o];exact X1
 rw[Hgx.o];clear X1;obtain⟨c0,c1,c2,c3,c4⟩:=X2.o.cs;have hs2:=B1.o.size;obtain⟨bt,Hbt⟩:=Nm (uU x.tag);obtain⟨bi,Hbi⟩:=Nm (uU x.id);go_cut [21] (fun s21 wx=>s21=.bool (!(uU x.tag&&nameP x.id))/\wx=w2);case first=>
  go_wp2_with fail;refine(DI x.tag _ As).mono ?_;rw[Hbt.o];rintro e wq ⟨rfl,hwq⟩;rw[hwq];clear hwq wq;cases bt
  .go_wp2_with fail;go_meet
   exact⟨by rw[Hbt.o];rfl,rfl⟩
  .go_wp2_with fail
   .have HV:Hid (nameP x.id=true):=agY x.id (by assumption);go_meet
    exact⟨by rw[Hbt.o,HV.o];rfl,rfl⟩
   .have HV:Hid (nameP x.id=bi):=by
     show _=_;rw[agZ x.id (by assumption)];exact Hbi.o
    have HE:Hid (x.id.toList.isEmpty=false):=alJ _ (by assumption);refine(DI x.id _ As).mono ?_;rw[Hbi.o];rintro e wq ⟨rfl,hwq⟩;rw[hwq];clear hwq wq;go_wp2_with fail;go_meet
    exact⟨by rw[Hbt.o,HV.o,HE.o];cases bi<;>rfl,rfl⟩
 case rest=>
 obtain⟨rfl,rfl⟩:=hcut;obtain⟨z,Hz⟩:=Nm ((uU x.tag&&nameP x.id));rw[Hz.o];clear Hbt Hbi;cases z
 .have HV:Hid (TL x=false):=by show _=_;unfold TL;rw[Hz.o];rfl
  go_wp2_with fail;go_ret;exact⟨aC HV.o.symm,B1.o⟩
 .by_cases h4:4<x.classes.length
  .have h4':(4:Int)<(x.classes.length:Int):=oo;have HV:Hid (TL x=false):=by show _=_;unfold TL;rw[decide_eq_false (show ¬x.classes.length<=4 by omega)];simp
   go_wp2_with fail;go_ret;exact⟨aC HV.o.symm,B1.o⟩
  .have h4':(x.classes.length:Int)<=4:=oo;by_cases h5:4<x.attrs.length
   .have h5':(4:Int)<(x.attrs.length:Int):=oo;have HV:Hid (TL x=false):=by show _=_;unfold TL;rw[decide_eq_false (show ¬x.attrs.length<=4 by omega)];simp
    go_wp2_with fail;go_ret;exact⟨aC HV.o.symm,B1.o⟩
   .have h5':(x.attrs.length:Int)<=4:=oo;have Lm:Hid (TL x=(x.classes.all uU&&x.attrs.all (fun a=>uU a.1&&dK a.2))):=by
     show _=_;unfold TL;rw[Hz.o,decide_eq_true (show x.classes.length<=4 by omega),decide_eq_true (show x.attrs.length<=4 by omega)];rfl
    have hxl:gx<wc.heap.size:=(Array.getElem?_eq_some_iff.1 (show wc.heap[gx]?=_ from X2.o)).1;go_wp2_with fail;go_loopg[35] x.classes.length (fun g v wr=>∃k:Nat,k+g=x.classes.length/\v=.int .i64 (k:Int)/\Aside ((x.classes.take k).all uU=true/\wr=wc));case atStart=>exact⟨0,oo,rfl,rfl,rfl⟩
    case round=>
     obtain⟨k,hk,rfl,hA⟩:=hrel;have HA:=hid hA.o.1;obtain rfl:=hA.o.2;clear hA;by_cases hlt:k<x.classes.length
     .have h1:(k:Int)<(x.classes.length:Int):=oo;obtain⟨g,o,rfl,hL,hcap⟩:=C1.o.here (by intro e;rw[e]at hlt;simp at hlt);obtain⟨hgs,d0,hsz⟩:=hL.str (i:=k) hlt;obtain⟨s,Hs⟩:=Nm (x.classes[k]);rw[Hs.o]at d0 hsz;clear hL;obtain⟨y,Hy⟩:=Nm (uU s);go_wp2_with fail;refine(DI s _ As).mono ?_;rw[Hy.o];rintro e wq ⟨rfl,hwq⟩;rw[hwq];clear hwq wq;cases y
      .have HV:Hid (TL x=false):=by show _=_;rw[Lm.o,XC uU x.classes k hlt (by rw[Hs.o];exact Hy.o)];rfl
       go_wp2_with fail;go_ret;exact⟨aC HV.o.symm,B1.o⟩
      .have HN:Hid ((x.classes.take (k+1)).all uU=true):=TK uU x.classes k hlt HA.o (by rw[Hs.o];exact Hy.o);go_wp2_with fail;go_roundg(x.classes.length-(k+1));case measure=>omega
       case rel=>exact⟨k+1,oo,by congr 1,HN.o,rfl⟩
     .have h1:(x.classes.length:Int)<=(k:Int):=oo;have HV1:Hid (TL x=x.attrs.all (fun a=>uU a.1&&dK a.2)):=by
       show _=_;have:(x.classes.take k).all uU=x.classes.all uU:=by rw[List.take_of_length_le oo]
       rw[Lm.o,<-this,HA.o];rfl
      go_wp2_with fail;clear c0 c1 c2 c3 c4 X2 HA Lm C1 h4 h4' h1 hlt;obtain⟨wc,hwc⟩:∃q,q=wr:=⟨_,rfl⟩;subst hwc;go_loopg[46] x.attrs.length (fun g v wr=>∃k:Nat,k+g=x.attrs.length/\v=.int .i64 (k:Int)/\Aside ((x.attrs.take k).all (fun a=>uU a.1&&dK a.2)=true/\Below w.heap.size wc wr));case atStart=>exact⟨0,oo,rfl,rfl,Ax⟩
      case round=>
       obtain⟨m,hm,rfl,hA⟩:=hrel;have HA:=hid hA.o.1;have BR:=hid hA.o.2;clear hA;have BW:=hid (B1.o.trans (BR.o));have A2:=hid (A1.o.below qH.fair BR.o hB);by_cases hlt:m<x.attrs.length
       .have h1:(m:Int)<(x.attrs.length:Int):=oo;obtain⟨g,o,rfl,hL,hcap⟩:=A2.o.here (by intro e;rw[e]at hlt;simp at hlt);obtain⟨hgs,d0,d1,hsz,hsz1⟩:=hL.att (i:=m) hlt;obtain⟨s,Hs⟩:=Nm (x.attrs[m]);rw[Hs.o]at d0 d1 hsz hsz1;clear hL;have N2:Hid (XA (wr.alloc (.cells #[.string s.1,.string s.2] 96)) wr.heap.size s):=heap_alloc_new wr _;have BN:Hid (Below w.heap.size wc (wr.alloc (.cells #[.string s.1,.string s.2] 96))):=BR.o.alloc BW.o.size _;have BV:Hid (Below w.heap.size w (wr.alloc (.cells #[.string s.1,.string s.2] 96))):=BW.o.alloc BW.o.size _;obtain⟨y1,Hy1⟩:=Nm (uU s.1);obtain⟨y2,Hy2⟩:=Nm (dK s.2);go_upto_region 14 with fail
        generalize wr.alloc (.cells #[.string s.1,.string s.2] 96)=w3 at *;obtain⟨gy,Hgy⟩:=Nm wr.heap.size;rw[Hgy.o]at N2;rw[Hgy.o];obtain⟨n0,n1⟩:=N2.o.cs;clear d0 d1;go_wp2_with fail;refine(DI s.1 _ As).mono ?_;rw[Hy1.o];rintro e wq ⟨rfl,hwq⟩;rw[hwq];clear hwq wq;cases y1
        .have HV:Hid (TL x=false):=by show _=_;rw[HV1.o];exact XC _ x.attrs m hlt (by rw[Hs.o,Hy1.o];rfl)
         go_wp2_with fail;go_ret;exact⟨aC HV.o.symm,BV.o⟩
        .go_wp2_with fail;refine(L6 s.2 _ As).mono ?_;rw[Hy2.o];rintro e wq ⟨rfl,hwq⟩;rw[hwq];clear hwq wq;cases y2
         .have HV:Hid (TL x=false):=by show _=_;rw[HV1.o];exact XC _ x.attrs m hlt (by rw[Hs.o,Hy1.o,Hy2.o];rfl)
          go_wp2_with fail;go_ret;exact⟨aC HV.o.symm,BV.o⟩
         .have HN:Hid ((x.attrs.take (m+1)).all (fun a=>uU a.1&&dK a.2)=true):=TK _ x.attrs m hlt HA.o (by rw[Hs.o,Hy1.o,Hy2.o];rfl);go_wp2_with fail;go_roundg(x.attrs.length-(m+1));case measure=>omega
          case rel=>exact⟨m+1,oo,by congr 1,HN.o,BN.o⟩
       .have h1:(x.attrs.length:Int)<=(m:Int):=oo;have HV:Hid (TL x=true):=by
         show _=_;have:(x.attrs.take m).all (fun a=>uU a.1&&dK a.2)=x.attrs.all (fun a=>uU a.1&&dK a.2):=by rw[List.take_of_length_le oo]
         rw[HV1.o,<-this,HA.o]
        go_wp2_with fail;go_ret;exact⟨aC HV.o.symm,BW.o⟩
theorem ad5(B:Nat)(p:aI)(v:Av)(w:WD)(h:SG wO 5 (fun b=>b<B) w v p)(hB:B<=w.heap.size):
  Calls prog 58 #[v] w fun e w'=>e=.returned (.bool (iL p))/\Below w.heap.size w w':=by
 have hl:=h.len;have HS:=hid h;obtain⟨a,cap,rfl⟩:=h.form;clear h;by_cases hl1:p.length<1
 .have h1:(p.length:Int)<1:=oo;have HV:Hid (iL p=false):=by show _=_;unfold iL;rw[decide_eq_false oo];rfl
  go_in;go_wp2_with fail;go_ret;exact⟨aC HV.o.symm,Ax⟩
 .have h1:(1:Int)<=(p.length:Int):=oo;by_cases amY:30<p.length
  .have h2:(30:Int)<(p.length:Int):=oo;have HV:Hid (iL p=false):=by show _=_;unfold iL;rw[decide_eq_false (p:=p.length<=30) oo];simp
   go_in;go_wp2_with fail;go_ret;exact⟨aC HV.o.symm,Ax⟩
  .have h2:(p.length:Int)<=30:=oo;have HP:Hid (iL p=gI 0 p):=by show _=_;unfold iL;rw[decide_eq_true oo,decide_eq_true oo];rfl
   clear hl1 amY;go_in;go_wp2_with fail;go_loopg[15] p.length (fun g v3 wr=>∃i:Nat,i+g=p.length/\v3=.int .i64 (i:Int)/\Aside (gI 0 p=gI i (p.drop i)/\Below w.heap.size w wr));case atStart=>exact⟨0,oo,rfl,rfl,Ax⟩
   case round=>
    obtain⟨go,hgo⟩:∃go,go=gk:=⟨_,rfl⟩;obtain⟨i,hi,rfl,hA⟩:=hrel;have HE:=hid hA.o.1;have HB:=hid hA.o.2;clear hA;by_cases hlt:i<p.length
    .have h3:(i:Int)<(p.length:Int):=oo;have hsz:=HB.o.size;have hS:=HS.o.below wO.fair HB.o hB;obtain⟨g,o,rfl,hL,hcap⟩:=hS.here (by rintro rfl;simp at hlt);obtain⟨cv,av,hX⟩:=hL.el (i:=i) hlt;obtain⟨x,hx⟩:∃x,x=p[i]:=⟨_,rfl⟩;have HE2:Hid (iL p=(xC i x&&gI (i+1) (p.drop (i+1)))):=by show _=_;rw[HP.o,HE.o,RN p i i hlt,hx]
     rw[<-hx]at hX;obtain⟨ca,cc,rfl⟩:=hX.cl.form;obtain⟨aa,ac,rfl⟩:=hX.at_.form;obtain⟨c0,c1,c2,c3,c4⟩:_/\_/\_/\_/\_:=⟨hX.c0,hX.c1,hX.c2,hX.c3,hX.c4⟩;have alK:=hX.cl.len;have alL:=hX.at_.len;have hts:=hX.tag;have his:=hX.id;have X2:Hid (XE (wr.alloc (.cells #[.int .i64 x.parent,.string x.tag,.string x.id,.slice ca x.classes.length cc,.slice aa x.attrs.length ac] 35)) wr.heap.size x (.slice ca x.classes.length cc) (.slice aa x.attrs.length ac)):=heap_alloc_new wr _;have B2:Hid (Below w.heap.size w (wr.alloc (.cells #[.int .i64 x.parent,.string x.tag,.string x.id,.slice ca x.classes.length cc,.slice aa x.attrs.length ac] 35))):=HB.o.alloc hsz _
     have C2:Hid (SG eX 1 (fun b=>b<B) (wr.alloc (.cells #[.int .i64 x.parent,.string x.tag,.string x.id,.slice ca x.classes.length cc,.slice aa x.attrs.length ac] 35)) (.slice ca x.classes.length cc) x.classes):=hX.cl.keep eX.fair (fun _ hg=>hg) fun q hq=>Below.heap_alloc _ _ _ oo;have A2:Hid (SG qH 2 (fun b=>b<B) (wr.alloc (.cells #[.int .i64 x.parent,.string x.tag,.string x.id,.slice ca x.classes.length cc,.slice aa x.attrs.length ac] 35)) (.slice aa x.attrs.length ac) x.attrs):=hX.at_.keep qH.fair (fun _ hg=>hg) fun q hq=>Below.heap_alloc _ _ _ oo;clear hS hL hX hx;go_upto_region 6 with fail
     generalize wr.alloc (.cells #[.int .i64 x.parent,.string x.tag,.string x.id,.slice ca x.classes.length cc,.slice aa x.attrs.length ac] 35)=w2 at *;generalize wr.heap.size=xb at *;clear c0 c1 c2 c3 c4 HE;obtain⟨c0,c1,c2,c3,c4⟩:=X2.o.cs;have hsz2:=B2.o.size;obtain⟨bp,Hbp⟩:=Nm (Xz x.parent i);obtain⟨be,Hbe⟩:=Nm (TL x);have Pv:Hid (iL p=(bp&&be&&gI (i+1) (p.drop (i+1)))):=by show _=_;rw[HE2.o,TM,show Wi i x=bp from Hbp.o,Hbe.o]
     go_wp2_with fail;refine(XB x.parent i _).mono ?_;rw[Hbp.o];rintro e wq ⟨rfl,hwq⟩;rw[hwq];clear hwq wq;cases bp
     .have HV:Hid (iL p=false):=Pv.o;go_wp2_with fail;go_ret;exact⟨aC HV.o.symm,B2.o⟩
     .go_wp2_with fail;refine(ad4 B x _ _ _ C2.o A2.o hts his oo).mono ?_;rw[Hbe.o];rintro e wq ⟨rfl,hwq⟩;have B3:=hid (B2.o.trans (hwq.mono hsz2));clear hwq c0 c1 c2 c3 c4 X2;cases be
      .have HV:Hid (iL p=false):=Pv.o;go_wp2_with fail;go_ret;exact⟨aC HV.o.symm,B3.o⟩
      .have HT:Hid (gI 0 p=gI (i+1) (p.drop (i+1))):=by
        show _=_;rw[<-HP.o,Pv.o];rfl
       go_wp2_with fail;go_roundg(go-1);case measure=>omega
       case rel=>exact⟨i+1,oo,by congr 1,HT.o,B3.o⟩
    .have h3:(p.length:Int)<=(i:Int):=oo;have HV:Hid (iL p=true):=by
      show _=_;rw[HP.o,HE.o,List.drop_of_length_le oo];rfl
     go_wp2_with fail;go_ret;exact⟨aC HV.o.symm,HB.o⟩
theorem ag0(s k:Nat)(hs:s<18446744073709551616):(bits .and .u64 ((s:Int)/2 ^ k) 1==1)=s.testBit k:=by
 have h1:(s:Int)/2 ^ k=((s/2 ^ k:Nat):Int):=by simp
 have h2:s/2 ^ k<18446744073709551616:=Nat.lt_of_le_of_lt (Nat.div_le_self _ _) hs;have h3:=bits_and_u64_nat (s/2 ^ k) 1 h2 Al;rw[h1];rw[show((1:Nat):Int)=1 from rfl]at h3;rw[h3,Nat.and_one_is_mod,Nat.testBit_eq_decide_div_mod_eq];by_cases h:s/2 ^ k%2=1
 .rw[h];rfl
 .have h4:s/2 ^ k%2=0:=oo;rw[h4];rfl
def hasB(s:Nat)(e:Int):Bool:=decide (0<=e)&&s.testBit e.toNat
theorem ajM(n:Nat)(a:Option Addr)(cap:Nat)(e:Int)(w:WD):
  Calls prog 33 #[.agg #[.slice a n cap],.int .i64 e] w fun ex w'=>ex=.returned (.bool (decide (0<=e)&&decide (e<n)))/\Below w.heap.size w w':=by
 have B1:Hid (Below w.heap.size w (w.alloc (.cells #[.slice a n cap] 66))):=Ax.alloc nl _;go_in;by_cases h0:0<=e
 .have HV:Hid ((decide (0<=e)&&decide (e<(n:Int)))=decide (e<(n:Int))):=by show _=_;rw[decide_eq_true h0];rfl
  go_wp2_with fail;go_ret;exact⟨aC HV.o.symm,B1.o⟩
 .have h1:e<0:=oo;have HV:Hid ((decide (0<=e)&&decide (e<(n:Int)))=false):=by show _=_;rw[decide_eq_false h0];rfl
  clear h0;go_wp2_with fail;go_ret;exact⟨aC HV.o.symm,B1.o⟩
theorem EN(s:Nat)(e:Int)(w:WD)(hs:s<18446744073709551616)(he:e<64):
  Calls prog 47 #[.int .u64 (s:Int),.int .i64 e] w fun ex w'=>ex=.returned (.bool (hasB s e))/\w'=w:=by
 go_in;by_cases h0:0<=e
 .have HV:Hid (hasB s e=(bits .and .u64 ((s:Int)/2 ^ e.toNat) 1==1)):=by show _=_;rw[ag0 s _ hs];unfold hasB;rw[decide_eq_true h0];rfl
  go_wp2_with fail;go_ret;exact⟨aC HV.o.symm,rfl⟩
 .have h1:e<0:=oo;have HV:Hid (hasB s e=false):=by show _=_;unfold hasB;rw[decide_eq_false h0];rfl
  clear h0;go_wp2_with fail;go_ret;exact⟨aC HV.o.symm,rfl⟩
theorem amZ(B:Nat)(p:aI)(v:Av)(w:WD)(h:SG wO 5 (fun b=>b<B) w v p)(hB:B<=w.heap.size):
  Calls prog 32 #[v] w fun e w'=>(∃pv,e=.returned (.tuple #[pv,.bool (iL p)])/\(iL p=true->pv=.agg #[v]))/\Below w.heap.size w w':=by
 have B1:Hid (Below w.heap.size w (w.alloc (.cells #[.slice none 0 0] 66))):=Ax.alloc nl _;have HS:=hid (h.below wO.fair B1.o hB);have hsz:=B1.o.size;have N0:Hid ((w.alloc (.cells #[.slice none 0 0] 66)).heap[w.heap.size]?=some (.cells #[.slice none 0 0] 66 (0,0))):=heap_alloc_new w _;obtain⟨a,cap,rfl⟩:=h.form;clear h;obtain⟨b,Hb⟩:=Nm (iL p);go_in;go_wp2_with fail;generalize w.alloc (.cells #[.slice none 0 0] 66)=w2 at *;refine(ad5 B p _ _ HS.o oo).mono ?_;rw[Hb.o];rintro e wq ⟨rfl,hwq⟩;have B2:=hid (B1.o.trans (hwq.mono hsz));have N1:Hid (wq.heap[w.heap.size]?=some (.cells #[.slice none 0 0] 66 (0,0))):=by show _=_;rw[hwq.block _ (Ay N0.o)];exact N0.o
 have c0:wq.cell? ⟨w.heap.size,0,none⟩=some (.slice none 0 0):=by unfold World.cell?;rw[N1.o];rfl
 have f0:wq.frozen? ⟨w.heap.size,0,none⟩=false:=by unfold World.frozen?;rw[N1.o];simp
 clear hwq N0 N1 HS;cases b
 .have c1:(wq.setCell ⟨w.heap.size,0,none⟩ (.slice none 0 0)).cell? ⟨w.heap.size,0,none⟩=some (.slice none 0 0):=World.cell?_setCell_same _ _ _ c0;have B3:Hid (Below w.heap.size w (wq.setCell ⟨w.heap.size,0,none⟩ (.slice none 0 0))):=B2.o.setCell nl _;go_wp2_with fail;generalize wq.setCell ⟨w.heap.size,0,none⟩ (.slice none 0 0)=w9 at *;refine bodyPost_ret (v:=.tuple #[.agg #[.slice none 0 0],.bool false]) (by simp[results,Tryz.results32,go_sem,c1]) rfl ?_;exact⟨⟨_,by rw[Hb.o],by rw[Hb.o];intro h;cases h⟩,B3.o⟩
 .have c1:(wq.setCell ⟨w.heap.size,0,none⟩ (.slice a p.length cap)).cell? ⟨w.heap.size,0,none⟩=some (.slice a p.length cap):=World.cell?_setCell_same _ _ _ c0;have B3:Hid (Below w.heap.size w (wq.setCell ⟨w.heap.size,0,none⟩ (.slice a p.length cap))):=B2.o.setCell nl _;go_wp2_with fail;generalize wq.setCell ⟨w.heap.size,0,none⟩ (.slice a p.length cap)=w9 at *;refine bodyPost_ret (v:=.tuple #[.agg #[.slice a p.length cap],.bool true]) (by simp[results,Tryz.results32,go_sem,c1]) rfl ?_;exact⟨⟨_,by rw[Hb.o],fun _=>rfl⟩,B3.o⟩
