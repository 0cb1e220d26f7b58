import Derived.Test.YtlliliddljkbfaaGreatDoorC45
namespace Go.Proofs.YtlliliddljkbfaaGreatDoor
set_option maxHeartbeats 64000000
set_option maxRecDepth 100000
open Go.RowKit Sp
section
theorem Jl:∀(a b:List Simple),zA (a++b)=zA a+zA b
 |[],b=>by simp[zA]
 |s::r,b=>by
  rw[List.cons_append];conv=>lhs;unfold zA
  conv=>rhs;lhs;unfold zA
  rw[Jl r b];omega
theorem QF(s:Simple):zA [s]=zS s:=by simp[zA]
theorem Sr(k:Nat)(nm how v:ByteArray)(l:fC)(p:Nat):zS (.mk k nm how v l p)=4*nm.size+4*v.size+how.size+120+zL l:=by conv=>lhs;unfold zS
theorem QG:zL []=0:=by unfold zL;rfl
theorem Gl(k:Nat)(nm:ByteArray):zS (Simple.of k nm)=4*nm.size+120:=by unfold Simple.of;rw[Sr,QG];have e:aA.size=0:=rfl;rw[e]
theorem NV{l:List Nd}{s:Simple}(h:dh l=some s):zS s<=4*fB l+124:=by
 unfold dh at h;split at h
 .cases h
 .rename_i n r;rw[dA,lF n];simp only at h;split at h
  .cases h
  .split at h
   .cases h;rw[Gl];omega
   .rename_i m r1 hb;have h3:=kP r;rw[hb,dA,lF m]at h3;split at h
    .cases h
    .split at h
     .cases h
     .rename_i q r2 hq;have hq2:fB (q::r2)<=16+4*m.t.word.size+4*m.t.unit.size+fB m.kids+fB r1:=by
       rw[<-hq];split
       .omega
       .rw[dA,lF];omega
      rw[dA]at hq2;split at h
      .rename_i v hv;have h4:=kP r2;rw[hv,dA,lF v]at h4;split at h
       .cases h;rw[Sr,QG];have e:((if m.t.word=b1 126\/m.t.word=b1 94\/m.t.word=b1 36\/m.t.word=b1 42 then m.t.word else aA)++b1 61).size<=m.t.word.size+1:=by
         rw[ByteArray.size_append];have e1:(b1 61).size=1:=rfl;have e0:aA.size=0:=rfl;split
         .omega
         .omega
        omega
       .cases h
      .cases h
theorem XQ{l r:List Nd}{c:Nat}(h:gQ l=some (c,r)):fB r<=fB l:=by
 have hd:=rQ l;unfold gQ at h;split at h
 .split at h
  .cases h
  .cases h;rw[nT];exact Nat.zero_le _
 .rename_i n q hq;have hb:=rQ q;rw[hq,dA]at hd;split at h
  .cases h;omega
  split at h
  .cases h;omega
  split at h
  .cases h;omega
  split at h
  .cases h;rw[dA];omega
  .cases h
theorem Gm:∀(l:List Nd) (out:List (List Nd)) (cur:List Nd),((kW out cur l).map fB).sum<=(out.map fB).sum+fB cur+fB l
 |[],out,cur=>by unfold kW;rw[List.map_append,List.sum_append];simp only[List.map_cons,List.map_nil,List.sum_cons,List.sum_nil];omega
 |m::r,out,cur=>by
  unfold kW;rw[dA];split
  .have:=Gm r (out++[cur]) [];rw[List.map_append,List.sum_append,nT]at this;simp only[List.map_cons,List.map_nil,List.sum_cons,List.sum_nil]at this;omega
  .have:=Gm r out (cur++[m]);rw[tK,dA,nT]at this;omega
section
variable {rec:List Nd->Option fC} (hrec : ∀ l ss,rec l=some ss->zL ss<=16*fB l)
include hrec
theorem UG{n:Nd}{s:Simple}(h:aK rec n=some s):zS s+100<=16*GH n:=by
 rw[lF];unfold aK at h;simp only at h;split at h
 .split at h
  .cases h;rw[Gl,lD];omega
  .cases h
 split at h
 .cases h
 have e:aA.size=0:=rfl;split at h
 .cases hr:rec n.kids with
  |none=>rw[hr]at h;cases h
  |some ss=>rw[hr]at h;simp at h;subst h;have:=hrec _ _ hr;rw[Sr,lD,e];omega
 split at h
 .split at h
  .rename_i v hv;cases hp:placeOf v.t with
   |none=>rw[hp]at h;cases h
   |some q=>rw[hp]at h;simp at h;subst h;rw[Sr,lD,e,QG];omega
  .cases h
 .cases h
theorem XR(n:Nat):∀(acc:List Simple) (l:List Nd) (all:List Simple) (r:List Nd),l.length<=n->bD rec acc l=some (all,r)->zA all+100*all.length+16*fB r<=zA acc+100*acc.length+16*fB l:=by
 induction n with
 |zero=>intro acc l all r hl h;obtain rfl:l=[]:=List.eq_nil_of_length_eq_zero oo;simp[bD]at h;obtain⟨rfl,rfl⟩:=h;exact Nat.le_refl _
 |succ n ih=>
  intro acc l all r hl h;have one:∀s,zA (acc++[s])+100*(acc++[s]).length=zA acc+100*acc.length+(zS s+100):=fun s=>by rw[Jl,QF,List.length_append];show _+100*(_+1)=_;omega
  match l,hl,h with
  |[],_,h=>simp[bD]at h;obtain⟨rfl,rfl⟩:=h;exact Nat.le_refl _
  |[m],_,h=>
   rw[dA,lF m,nT];unfold bD at h;split at h
   .cases h;rw[one,Gl,nT];omega
   split at h
   .cases h
   split at h
   .split at h
    .cases h
    .rename_i s hs;cases h;have h1:=NV hs;have h2:=kP m.kids;rw[one,nT];omega
   split at h
   .cases h
   .cases h;rw[dA,lF m,nT];omega
  |m::q::r',hl,h=>
   simp only[List.length_cons]at hl;rw[dA,lF m];unfold bD at h;split at h
   .have:=ih _ _ _ _ (by simp;omega) h;rw[one,Gl]at this;omega
   split at h
   .split at h
    .have:=ih _ _ _ _ oo h;rw[one,Gl]at this;rw[dA,lF q];omega
    .cases h
   split at h
   .split at h
    .cases h
    .rename_i s hs;have:=ih _ _ _ _ (by simp;omega) h;have h1:=NV hs;have h2:=kP m.kids;rw[one]at this;omega
   split at h
   .split at h
    .cases h
    .rename_i s hs;have:=ih _ _ _ _ oo h;have h1:=UG hrec hs;rw[one]at this;rw[dA q];omega
   .cases h;rw[dA m,lF m];omega
theorem NW{l:List Nd}{all:List Simple}{r:List Nd}(h:aJ rec l=some (all,r)):zA all+100*all.length+16*fB r<=16*fB l:=by
 unfold aJ at h;have h1:=XR hrec _ _ _ _ _ nl h;have ht:zA (oW l).1+100*(oW l).1.length+16*fB (oW l).2<=16*fB l:=by
  unfold oW;split
  .simp[zA]
  .rw[dA,lF];split
   .simp only[QF,Gl,lD];show _+100*1+_<=_;omega
   split
   .have e:aA.size=0:=rfl;simp only[QF,Gl,e];show _+100*1+_<=_;omega
   .simp only[dA,lF];show zA []+100*0+_<=_;have e:zA []=0:=by unfold zA;rfl
    omega
 omega
theorem Gn:∀(f b:Nat) (l:List Nd) (ss:List Step),dR rec f b l=some ss->zC ss+90<=16*fB l
 |0,_,_,_,h=>by simp[dR]at h
 |f+1,b,l,ss,h=>by
  unfold dR at h;split at h
  .cases h
  .rename_i all r hc;have h1:=NW hrec hc;split at h
   .cases h
   .rename_i hne;have hl:1<=all.length:=by cases all with|nil=>exact absurd rfl hne|cons _ _=>simp
    split at h
    .cases h;simp only[zC,zT];omega
    .split at h
     .cases h
     .rename_i c r' hcb;have hw:=XQ hcb;cases hx:dR rec f c r' with
      |none=>rw[hx]at h;cases h
      |some x=>
       rw[hx]at h;simp at h;subst h;have ih:=Gn f c r' x hx;conv=>lhs;unfold zC
       simp only[zT];omega
theorem Sv:∀(ps:List (List Nd)) (ss:fC),jT rec ps=some ss->zL ss<=16*(ps.map fB).sum
 |[],ss,h=>by simp[jT]at h;subst h;simp[zL]
 |p::r,ss,h=>by
  unfold jT at h;split at h
  .cases h
  .rename_i s hs;cases hx:jT rec r with
   |none=>rw[hx]at h;cases h
   |some x=>
    rw[hx]at h;simp at h;subst h;have h1:=Gn hrec _ _ _ _ hs;have h2:=kP p;have h3:=Sv r x hx;conv=>lhs;unfold zL
    rw[List.map_cons,List.sum_cons];omega
theorem Sz{l:List Nd}{ss:fC}(h:tX rec l=some ss):zL ss<=16*fB l:=by
 unfold tX at h;split at h
 .cases h
 .have h1:=Sv hrec _ _ h;have h2:=Gm l [] [];rw[nT]at h2;simp only[List.map_nil,List.sum_nil]at h2;unfold parted at h1;omega
end
theorem KE:∀(f:Nat) (l:List Nd) (ss:fC),ny f l=some ss->zL ss<=16*fB l
 |0,l,ss,h=>Sz (rec:=fun _=>none) (fun _ _ h=>by cases h) h
 |f+1,l,ss,h=>Sz (rec:=ny f) (fun l ss h2=>KE f l ss h2) h
theorem XT:∀(ss:fC),ss.length<=zL ss
 |[]=>by simp
 |c::r=>by have:=XT r;unfold zL;simp only[List.length_cons];omega
theorem BU(p:aS):bV p []=true:=by unfold bV zD;rfl
theorem AV(p:aS):∀(a b:List Nd),bV p (a++b)=(bV p a&&bV p b)
 |[],b=>by rw[BU];rfl
 |n::r,b=>by rw[List.cons_append,mW,mW,AV p r b];cases fE p n.t<;>cases bV p n.kids<;>cases bV p r<;>rfl
theorem BZ(p:aS):∀(a:List Nd),bV p a.reverse=bV p a
 |[]=>rfl
 |n::r=>by rw[List.reverse_cons,AV,BZ p r,mW,mW,BU];cases fE p n.t<;>cases bV p n.kids<;>cases bV p r<;>rfl
theorem vT(p:aS):∀(l:List Nd),gL l->bV p (aC l)=bV p l
 |[],_=>by unfold aC;rfl
 |n::r,h=>by
  simp only[gL]at h;unfold aC;split
  .rename_i hb;have hk:n.t.kind=1:=by unfold nI at hb;simpa using hb
   have hc:closing n.t=aA:=by unfold closing;rw[if_neg (by rw[hk];omega),if_neg (by rw[hk];omega)]
   have hkids:=((XO n).1 h.1).2.2.1 hc;rw[vT p r h.2,mW,hkids,BU];have:fE p n.t=true:=by unfold fE;simp[hk]
   rw[this];simp
  .rfl
theorem QH(p:aS){l:List Nd}(h:gL l):bV p (bare l)=bV p l:=by unfold bare kG;have h1:gL (aC l):=KC h fun n hn=>wJ l n hn;rw[BZ,vT p _ (KC h1 fun n hn=>List.mem_reverse.1 hn),BZ,vT p _ h]
theorem aak{p:aS}{rec:List Nd->ByteArray}{r:Rule}(h:gL r.head)(hs:r.at_=none->r.body.isSome=true):kV p rec r=gX p rec r:=by
 obtain⟨at_,head,body⟩:=r;unfold kV gX;cases at_ with
 |none=>
  cases body with
  |none=>have:=hs rfl;simp at this
  |some b=>
   show Gg p head b=Em p _ b;unfold Gg Em;cases zx head with
   |none=>rfl
   |some ss=>show vP _ _=_;unfold vP;rfl
 |some w=>
  cases body with
  |none=>show yX p w false head _=aA;unfold yX;rw[if_neg (by simp)]
  |some b=>
   show yX p w true head (rec b)=_;unfold yX vP;have h1:=QH p h;simp only at h1;rw[<-h1];by_cases hc:p.ats.contains (small w)=true/\bV p (bare head)=true
   .rw[if_pos (by rw[hc.1,hc.2];rfl)];simp only;rw[if_pos hc];split
    .rfl
    .simp[ByteArray.append_assoc]
   .rw[if_neg (by intro h;simp only[Bool.true_and,Bool.and_eq_true]at h;exact hc h)];simp only;rw[if_neg hc]
theorem QI(hd:ig)(root:ByteArray)(ss:fC)(hq:uF ss)(hr:root.size<=12):(gU (jl root) ss).size<=16*zL ss:=by
 have h1:=qw (b1 44) (ss.map (fun x=>jl root++dJ x));rw[yV,List.length_map]at h1;have h2:=wI hd (jl root) ss hq;have h3:(jl root).size<=14:=by
  unfold jl;split
  .show 0<=14;omega
  .rw[ByteArray.size_append,ByteArray.size_append];show 1+(_+1)<=14;omega
 have h4:ss.length*(jl root).size<=ss.length*14:=Nat.mul_le_mul nl h3;have h5:=XT ss;have e:(b1 44).size=1:=rfl;rw[e]at h1;omega
theorem Jm(h b:ByteArray):(vP h b).size<=h.size+b.size+2:=by
 unfold vP;have e1:(b1 123).size=1:=rfl;have e2:(b1 125).size=1:=rfl;split
 .show 0<=_;omega
 .rw[ByteArray.size_append,ByteArray.size_append,ByteArray.size_append,e1,e2];omega
theorem UH(hd:ig){p:aS}{rec:List Nd->ByteArray}{r:Rule}(h:gL r.head)(hp:p.root.size<=12)(hrec:∀b,r.body=some b->(rec b).size<=300*fB b):(kV p rec r).size<=300*rwz r:=by
 obtain⟨at_,head,body⟩:=r;have hr:∀b,body=some b->(rec b).size<=300*fB b:=hrec;unfold kV rwz;cases at_ with
 |none=>
  show(Gg p head (body.getD [])).size<=300*(4*(none.getD aA).size+16+fB head+fB (body.getD []));unfold Gg;cases hs:zx head with
  |none=>show 0<=_;omega
  |some ss=>have h1:=Jm (gU (jl p.root) ss) (pX p (body.getD []));have h2:=QI hd p.root ss (DX _ _ _ (NU _ h) hs) hp;have h3:=KE _ _ _ hs;have h4:=Gf p (body.getD []);have h5:=(DZ (body.getD [])).1;show(vP _ _).size<=_;omega
 |some w=>
  show(yX p w body.isSome head (rec (body.getD []))).size<=300*(4*w.size+16+fB head+fB (body.getD []));unfold yX;split
  .rename_i hc;cases body with
   |none=>simp at hc
   |some b=>have h0:=hr b rfl;show(vP _ (rec b)).size<=300*(4*w.size+16+fB head+fB b);have h1:=Jm (b1 64++(bC (small w)++mD (bare head))) (rec b);have h2:=bZ (small w);have h3:=F5 (bare head);have h4:=kP head;have e:(b1 64).size=1:=rfl;rw[ByteArray.size_append,ByteArray.size_append,e]at h1;rw[lD]at h2;omega
  .show 0<=_;omega
theorem rU(hd:ig){p:aS}{rec:List Nd->ByteArray}(hp:p.root.size<=12):∀(rs:List Rule),(∀r∈rs,gL r.head/\∀b,r.body=some b->(rec b).size<=300*fB b)->total (rs.map (kV p rec))<=300*DL rs
 |[],_=>by simp[total]
 |r::q,h=>by have ih:=rU hd hp q fun x hx=>h x (by simp[hx]);have h0:=h r (by simp);have h1:=UH hd h0.1 hp h0.2;simp only[List.map_cons,total,DL];omega
theorem Gp:∀(l:List ByteArray),aB l=cat l
 |[]=>rfl
 |a::r=>by show a++aB r=a++cat r;rw[Gp r]
theorem Gq:∀(l:List ByteArray),(cat l).size=total l
 |[]=>rfl
 |a::r=>by show(a++cat r).size=a.size+total r;rw[ByteArray.size_append,Gq r]
theorem pF{sh:Bool}{l:List Nd}(hg:gL l):∀r∈rules sh l,gL r.head/\(r.at_=none->r.body.isSome=true)/\(∀b,r.body=some b->gL b/\depth b+1<=depth l)/\rwz r<=fB l:=fun r hr=>by have h1:=AU sh l;have h2:=h1.2 r hr;have h3:=Sm _ r hr;exact⟨KC hg h2.head,h2.sty,fun b hb=>ab9 h2 hg hb,oo⟩
theorem D6{p:aS}{rec:List Nd->ByteArray}{sh:Bool}{l:List Nd}(hg:gL l):(rules sh l).map (kV p rec)=(rules sh l).map (gX p rec):=List.map_congr_left fun r hr=>by have h:=pF hg r hr;exact aak h.1 h.2.1
theorem rV(hd:ig)(p:aS)(hp:p.root.size<=12):∀(f:Nat) (sh:Bool) (l:List Nd),gL l->(oQ p f sh l).size<=300*fB l
 |0,sh,l,hg=>by unfold oQ;rw[Gq,<-D6 hg];have:=rU hd (rec:=fun _=>aA) hp (rules sh l) (fun r hr=>⟨(pF hg r hr).1,fun b _=>by show 0<=_;omega⟩);have:=(AU sh l).1;omega
 |f+1,sh,l,hg=>by unfold oQ;rw[Gq,<-D6 hg];have:=rU hd (rec:=oQ p f false) hp (rules sh l) (fun r hr=>⟨(pF hg r hr).1,fun b hb=>rV hd p hp f false b ((pF hg r hr).2.2.1 b hb).1⟩);have:=(AU sh l).1;omega
end
end Go.Proofs.YtlliliddljkbfaaGreatDoor
