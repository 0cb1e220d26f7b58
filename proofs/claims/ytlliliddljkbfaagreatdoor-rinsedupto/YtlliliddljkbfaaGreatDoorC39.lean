import Derived.Test.YtlliliddljkbfaaGreatDoorC32
import Derived.Test.YtlliliddljkbfaaGreatDoorC38
namespace Go.Proofs.YtlliliddljkbfaaGreatDoor
set_option maxHeartbeats 64000000
set_option maxRecDepth 100000
open Go.Proofs.Tryz (prog)
open Go.RowKit Sp
section
theorem Ny{d:Nat}:∀(a:List Nd),(∀n∈a,jS n<=d)->depth a<=d
 |[],_=>by simp[depth]
 |m::r,h=>by have h1:=h m (by simp);have h2:=Ny r (fun n hn=>h n (by simp[hn]));simp only[depth];omega
theorem rG:∀(l:List Nd) (n:Nd),n∈aC l->n∈l
 |m::r,n,h=>by
  unfold aC at h;split at h
  .exact List.mem_cons_of_mem _ (rG r n h)
  .exact h
theorem FN(l:List Nd)(n:Nd)(h:n∈bare l):n∈l:=by unfold bare kG at h;rw[List.mem_reverse]at h;exact rG l n (List.mem_reverse.1 (rG _ n h))
theorem wH:∀(l:List Nd) (out:List (List Nd)) (cur:List Nd) (P:Nd->Prop),(∀p∈out,∀n∈p,P n)->(∀n∈cur,P n)->(∀n∈l,P n)->∀p∈kW out cur l,∀n∈p,P n
 |[],out,cur,P,h1,h2,_,p,hp,n,hn=>by
  unfold kW at hp;rcases List.mem_append.1 hp with h|h
  .exact h1 p h n hn
  .simp at h;subst h;exact h2 n hn
 |m::r,out,cur,P,h1,h2,h3,p,hp,n,hn=>by
  unfold kW at hp;split at hp
  .refine wH r (out++[cur]) [] P (fun q hq k hk=>?_) (by simp) (fun k hk=>h3 k (by simp[hk])) p hp n hn;rcases List.mem_append.1 hq with h|h
   .exact h1 q h k hk
   .simp at h;subst h;exact h2 k hk
  .refine wH r out (cur++[m]) P h1 (fun k hk=>?_) (fun k hk=>h3 k (by simp[hk])) p hp n hn;rcases List.mem_append.1 hk with h|h
   .exact h2 k h
   .simp at h;subst h;exact h3 _ (by simp)
theorem Kv{l:List Nd}{d:Nat}(h:depth l<=d):∀p∈parted l,depth (bare p)<=d:=fun p hp=>Ny _ fun n hn=>wH l [] [] (fun n=>jS n<=d) (by simp) (by simp) (fun n hn=>by have:=mP l n hn;omega) p hp n (FN p n hn)
theorem FP(l:List Nd):(parted l).length<=l.length+1:=by
 have:∀(l:List Nd) (out:List (List Nd)) (cur:List Nd),(kW out cur l).length<=out.length+l.length+1:=by
  intro l;induction l with
  |nil=>intro out cur;simp[kW]
  |cons m r ih=>
   intro out cur;unfold kW;split
   .have:=ih (out++[cur]) [];simp at this⊢;omega
   .have:=ih out (cur++[m]);simp at this⊢;omega
 have:=this l [] [];simpa[parted]using this
section
variable {rec:List Nd->Option fC} {p:List Nd} {r:List (List Nd)}
theorem FQ(h:fD rec (bare p)=none):jT rec (p::r)=none:=by unfold jT;rw[h]
theorem FU{s:List Step}(h:fD rec (bare p)=some s):jT rec (p::r)=(jT rec r).map (fun x=>s::x):=by
 have e:jT rec (p::r)=match fD rec (bare p)with|none=>none|some s=>(jT rec r).map (fun x=>s::x):=rfl
 rw[e,h]
end
theorem Um:∃i,prog.info? 147=some i/\i.zero=some (.slice none 0 0)/\i.size=1/\i.bytes=24:=info_parts (by kernel_rfl)
structure aeG(f:Nat)(l:List Nd)(w w1:World)(u:Value)(i:Nat)(ss:fC)(wr:World):Prop where
 m:MG (CX (bP f)) 1 147 w1.heap.size wr u ss
 bel:Below w.heap.size w wr
 e:ny f l=(jT (aY f) ((parted l).drop i)).map (fun x=>ss++x)
theorem CX.fair(f:Nat):Fair (CX (bP f)):=One.fair (lX.fair (bP.fair f))
theorem Xr(f:Nat)(hR:FK f):JW f:=by
 intro B l v w hd h hB;have hl:=h.len;have HS:Hid (Sl (fun b=>b<B) w v l):=h;have HD:Hid (∀p∈parted l,depth (bare p)<=f):=Kv hd;have hpl:=FP l;obtain⟨ps,yZ⟩:∃ps,Hid (parted l=ps):=⟨_,hid rfl⟩;have HR:Hid (FK f):=hR;rw[yZ.o]at HD hpl;clear h hd hR;obtain⟨iT,hiT⟩:=Um;have HI:Hid (prog.info? 147=some iT/\iT.zero=some (.slice none 0 0)/\iT.size=1/\iT.bytes=24):=hiT;clear hiT;go_in;go_wp2_with fail;refine(Wu B l v w HS.o hB).mono ?_;rw[yZ.o];rintro e w1 ⟨vp,rfl,⟨gp,cp,rfl,hgp,hcells⟩,hb1⟩;have B1:Hid (Below w.heap.size w w1):=hb1;have HCl:Hid (∀k (hk:k<ps.length),∃u,w1.cell? ⟨gp,k,none⟩=some u/\Sl (fun b=>b<w1.heap.size) w1 u ps[k]):=hcells;have hs1:=hb1.size;clear hb1 hcells;by_cases h8:8<ps.length
 .have h8':(8:Int)<(ps.length:Int):=oo;have HV:Hid (ny f l=none):=by show _=_;rw[JV];unfold tX;rw[yZ.o,if_pos h8]
  go_wp2_with fail;go_ret2
  refine⟨?_,B1.o⟩;unfold Fb;rw[HV.o];rfl
 .have h8':(ps.length:Int)<=8:=oo;have HV:Hid (ny f l=jT (aY f) ps):=by show _=_;rw[JV];unfold tX;rw[yZ.o,if_neg h8]
  go_wp2_with fail;go_loopg[5,6] ps.length (fun gg v5 v6 wr=>∃(u:Value) (i:Nat) (ss:fC),u=v5/\v6=.int .i64 (i:Int)/\i+gg=ps.length/\ss.length<=i/\Aside (aeG f l w w1 u i ss wr/\Below w1.heap.size w1 wr));case atStart=>exact⟨_,0,[],rfl,rfl,oo,by simp,⟨MG.nil _ _ _ _ _,B1.o,by rw[HV.o,yZ.o];simp⟩,Below.refl _ _⟩
  case round=>
   obtain⟨u,i,ss,rfl,rfl,hig,adD,hA⟩:=hrel;have M0:Hid (MG (CX (bP f)) 1 147 w1.heap.size wr u ss):=hA.o.1.m;have B0:Hid (Below w.heap.size w wr):=hA.o.1.bel;have HE:Hid (ny f l=(jT (aY f) (ps.drop i)).map (fun x=>ss++x)):=by have:=hA.o.1.e;rwa[yZ.o]at this
   have BB:Hid (Below w1.heap.size w1 wr):=hA.o.2;clear hA;obtain⟨ua,uc,rfl⟩:=M0.o.form;have hs0:=B0.o.size;have hsb:=BB.o.size;by_cases hlt:i<ps.length
   .have h1:(i:Int)<(ps.length:Int):=oo;obtain⟨pv,hc0,hSp⟩:=HCl.o i hlt;obtain⟨q,hq⟩:∃q,q=ps[i]:=⟨_,rfl⟩;have Hdr:Hid (ps.drop i=q::ps.drop (i+1)):=by show _=_;rw[hq];exact List.drop_eq_getElem_cons hlt
    have Hdq:Hid (depth (bare q)<=f):=by rw[hq];exact HD.o _ (List.getElem_mem _)
    rw[<-hq]at hSp;have c0:wr.cell? ⟨gp,i,none⟩=some pv:=by rw[BB.o.cell (show gp<w1.heap.size from hgp)];exact hc0
    have Sq:Hid (Sl (fun b=>b<w1.heap.size) wr pv q):=hSp.below BB.o nl;clear hc0 hSp hq;go_wp2_with fail;refine(mQ w1.heap.size q pv wr Sq.o).mono ?_;rintro e wq ⟨vb,rfl,hSb,hwq⟩;rw[hwq];clear hwq wq;go_wp2_with fail;refine(Nw f HR.o w1.heap.size (bare q) vb wr hSb hsb Hdq.o).mono ?_;rintro e w2 ⟨hp,hb2⟩;have hs2:=hb2.size;have B2:Hid (Below w.heap.size w w2):=B0.o.trans (hb2.mono hs0);have BB2:Hid (Below w1.heap.size w1 w2):=BB.o.trans (hb2.mono hsb);have M2:Hid (MG (CX (bP f)) 1 147 w1.heap.size w2 (.slice ua ss.length uc) ss):=M0.o.below (CX.fair f) hb2;clear hb2 hSb c0;unfold Ul at hp;cases hcw:fD (aY f) (bare q)with
    |none=>
     rw[hcw]at hp;simp only at hp;subst hp;have rF:Hid (ny f l=none):=by show _=_;rw[HE.o,Hdr.o,FQ hcw];rfl
     go_wp2_with fail;go_ret2
     refine⟨?_,B2.o⟩;unfold Fb;rw[rF.o];rfl
    |some s=>
     rw[hcw]at hp;simp only at hp;obtain⟨sv,rfl,hsg⟩:=hp;obtain⟨sa,sc,rfl⟩:=hsg.form;have hsl:=hsg.len;have rF:Hid (ny f l=(jT (aY f) (ps.drop (i+1))).map (fun x=>(ss++[s])++x)):=by
      show _=_;rw[HE.o,Hdr.o,FU hcw,Option.map_map];congr 1
      funext x
      simp
     have X2:Hid (CX (bP f) (oO w1.heap.size (w2.alloc (.cells #[.slice sa s.length sc] 147)) (.slice ua ss.length uc)) (w2.alloc (.cells #[.slice sa s.length sc] 147)) s [.slice sa s.length sc]):=M0.o.apart (D:=CX (bP f)) (CX.fair f) ⟨_,rfl,hsg⟩ hsb (by simp) (fun q hq=>Below.heap_alloc _ _ _ hq)
     obtain⟨cs,hown,mG⟩:=(M2.o.alloc (CX.fair f) (.cells #[.slice sa s.length sc] 147));have HO:Hid ((w2.alloc (.cells #[.slice sa s.length sc] 147)).ownsRow w1.heap.size 147 1 (.slice ua ss.length uc) ss.length cs):=hown;have HC:Hid (jv (CX (bP f)) (oO w1.heap.size (w2.alloc (.cells #[.slice sa s.length sc] 147)) (.slice ua ss.length uc)) (w2.alloc (.cells #[.slice sa s.length sc] 147)) ss cs):=mG;clear hown mG hsg;go_wp2_with(at_builtin;go_must(refine wpList_append_own_at _ rfl _ _ 90 rfl w1.heap.size 147 iT (.slice none 0 0) 1 24 Tryz.underlying90 HI.o.1 HI.o.2.1 HI.o.2.2.1 HI.o.2.2.2 rfl oo (.slice ua ss.length uc) ss.length cs rfl HO.o ⟨w2.heap.size,0,none⟩ 1 1 [.slice sa s.length sc] rfl rfl (cell_one_new _ _ _) (by simp[Value.oneCell']) (by unfold maxLen;omega) oo (by simp;omega) ?_));intro v4 w4 hown4 bG _ fK
     have M4:Hid (MG (CX (bP f)) 1 147 w1.heap.size w4 v4 (ss++[s])):=MG.snoc (x:=s) (CX.fair f) HC.o X2.o hown4 bG (by simpa using fK);have B4:Hid (Below w.heap.size w w4):=(B2.o.alloc oo _).grown bG (by simp;omega) (fun rr hr=>by have:=(HO.o.lt rr hr).1;omega);have BB4:Hid (Below w1.heap.size w1 w4):=(BB2.o.alloc oo _).grown bG (by simp;omega) (fun rr hr=>(HO.o.lt rr hr).1);clear hown4 bG fK HO HC X2;go_wp2_with fail;go_roundg(gk-1);case measure=>omega
     case rel=>exact⟨v4,i+1,ss++[s],rfl,by congr 1,oo,by simp;omega,⟨M4.o,B4.o,by rw[rF.o,yZ.o]⟩,BB4.o⟩
   .have h1:(ps.length:Int)<=(i:Int):=oo;have rF:Hid (ny f l=some ss):=by
     show _=_;rw[HE.o,List.drop_of_length_le oo];simp[jT]
    go_wp2_with fail;go_ret2
    refine⟨?_,B0.o⟩;unfold Fb;rw[rF.o];exact⟨_,rfl,(M0.o.sl (CX.fair f) (One.sized _ _) oo).keep (CX.fair f) (fun q hq=>⟨by have:=hq.1;omega,hq.2⟩) fun _ _=>rfl⟩
theorem Nz:∀f,JW f
 |0=>Xr 0 trivial
 |f+1=>Xr (f+1) (Nz f)
end
section
attribute [local go_sem] dH dI bQ bT
def Un(d:List Nd):Option Nat:=match d with|[v]=>placeOf v.t|_=>none
def xu(l:List Nd):Option Nat:=Un (bare l)
theorem BQ(lv:Value)(p:Nat):jE 58 iR aA aA lv p=.iface 357 (if p=0 then .agg #[.string qC,.int .i64 0] else if p=1 then .agg #[.string kH,.int .i64 0] else .agg #[.string aA,.int .i64 ((p-2:Nat):Int)]):=by unfold jE;rw[if_neg oo,if_neg oo,if_neg oo,if_neg oo,if_neg (by decide),if_neg (by decide),if_pos rfl]
theorem Uo{s:ByteArray}(h0:0<s.size)(h:aP (pk s 0)=false):jR 0 s.data.toList=none:=by
 have e:∃c r,s.data.toList=c::r:=by
  cases hl:s.data.toList with
  |nil=>
   have:s.data.toList.length=s.size:=by simp
   rw[hl]at this;simp at this;omega
  |cons c r=>exact⟨c,r,rfl⟩
 obtain⟨c,r,e⟩:=e;have hp:pk s 0=(c.toNat:Int):=by rw[RH h0];simp[e]
 rw[e];unfold jR;rw[hp]at h;rw[if_neg];rintro ⟨h1,h2,_⟩;simp[aP]at h;omega
theorem NC(B:Nat)(l:List Nd)(v:Value)(w:World)(h:Sl (fun b=>b<B) w v l)(hB:B<=w.heap.size):
  Calls prog 307 #[v] w fun e w'=>((xu l=none/\∃pv,e=.returned (.tuple #[pv,.bool false]))\/∃p,xu l=some p/\e=.returned (.tuple #[jE 58 iR aA aA (.slice none 0 0) p,.bool true]))/\Below w.heap.size w w':=by
 have HS:Hid (Sl (fun b=>b<B) w v l):=h;clear h;obtain⟨d,Hd⟩:∃d,Hid (bare l=d):=⟨_,hid rfl⟩;have HP:Hid (xu l=Un d):=by show _=_;unfold xu;rw[Hd.o]
 obtain⟨a,cap,rfl⟩:=HS.o.form;go_in;go_wp2_with fail;refine(uP B l _ w HS.o).mono ?_;rw[Hd.o];rintro e w1 ⟨v1,rfl,hS1,rfl⟩;have S1:Hid (Sl (fun b=>b<B) w1 v1 d):=hS1;clear hS1 HS;by_cases h1:∃x,d=[x]
 .obtain⟨x,rfl⟩:=h1;obtain⟨g,o,kv,cp,rfl,hN,hcp⟩:=S1.o.head;obtain⟨ka,kc,rfl⟩:=hN.k.form;have d0:=hN.c0;have d1:=hN.c1;have d2:=hN.c2;have d3:=hN.c3;have tY:Hid (cZ x.t):=hN.ok;have hg:g<w1.heap.size:=by have:g<B:=hN.s;omega
  clear hN S1;have A2:Hid (VB (w1.alloc (.cells #[.int .i64 x.t.kind,.string x.t.word,.string x.t.unit,.slice ka x.kids.length kc] 168)) w1.heap.size (.int .i64 x.t.kind) (.string x.t.word) (.string x.t.unit) (.slice ka x.kids.length kc)):=VB.new _ _ _ _ _;have B2:Hid (Below w1.heap.size w1 (w1.alloc (.cells #[.int .i64 x.t.kind,.string x.t.word,.string x.t.unit,.slice ka x.kids.length kc] 168))):=(Below.refl _ _).alloc nl _;have hz:(((([]:List Nd).length:Nat):Int)+1 != 1)=false:=by simp
  simp only[List.length_nil]at *;go_upto_region 5 with fail
  generalize w1.alloc (.cells #[.int .i64 x.t.kind,.string x.t.word,.string x.t.unit,.slice ka x.kids.length kc] 168)=w2 at *;obtain⟨gt,oU⟩:∃gt,Hid (w1.heap.size=gt):=⟨_,hid rfl⟩;have A3:Hid (VB w2 gt (.int .i64 x.t.kind) (.string x.t.word) (.string x.t.unit) (.slice ka x.kids.length kc)):=by rw[<-oU.o];exact A2
  rw[oU.o];clear A2 d0 d1 d2 d3;obtain⟨a0,a1,a2,a3⟩:=A3.o.cs;have hwd:=tY.o.word;cases hk5:(x.t.kind==5)
  .cases Kw:(x.t.kind==14)
   .have HV:Hid (xu l=none):=by
     show _=_;rw[HP.o];simp at hk5 Kw;simp[Un,placeOf,hk5,Kw]
    go_wp2_with fail;go_ret2
    exact⟨.inl ⟨HV.o,_,rfl⟩,B2.o⟩
   .have e14:x.t.kind=14:=by simpa using Kw
    have HV:Hid (xu l=if small x.t.word=kH then some 1 else if small x.t.word=qC then some 0 else none):=by show _=_;rw[HP.o];simp only[Un,placeOf,if_pos e14]
    clear e14;obtain⟨nm,iZ⟩:∃nm,Hid (small x.t.word=nm):=⟨_,hid rfl⟩;rw[iZ.o]at HV;go_wp2_with fail;refine(oH x.t.word _ oo).mono ?_;rw[iZ.o];rintro e w3 ⟨rfl,hb3⟩;have B3:Hid (Below w1.heap.size w1 w3):=B2.o.trans (hb3.mono B2.o.size);clear hb3;cases ho:(nm.toList==[111,100,100])
    .cases hv:(nm.toList==[101,118,101,110])
     .have HN:Hid (xu l=none):=by
       show _=_;rw[aH]at ho hv;have h1:¬nm=kH:=by simpa[kH]using hv
       have h2:¬nm=qC:=by simpa[qC]using ho
       rw[HV.o,if_neg h1,if_neg h2]
      go_wp2_with fail;go_ret2
      exact⟨.inl ⟨HN.o,_,rfl⟩,B3.o⟩
     .have h1:nm=kH:=by rw[aH]at hv;simpa[kH]using hv
      have HN:Hid (xu l=some 1):=by show _=_;rw[HV.o,if_pos h1]
      have H1:Hid (nm=kH):=h1;clear h1;go_wp2_with fail;go_ret2
      exact⟨.inr ⟨1,HN.o,by rw[BQ,H1.o];rfl⟩,B3.o⟩
    .have h1:nm=qC:=by rw[aH]at ho;simpa[qC]using ho
     have HN:Hid (xu l=some 0):=by show _=_;rw[HV.o,h1];rfl
     have H1:Hid (nm=qC):=h1;clear h1;go_wp2_with fail;go_ret2
     exact⟨.inr ⟨0,HN.o,by rw[BQ,H1.o];rfl⟩,B3.o⟩
  .have e5:x.t.kind=5:=by simpa using hk5
   have HV:Hid (xu l=(jR 0 x.t.word.data.toList).map (· + 2)):=by
    show _=_;rw[HP.o];have h0:=tY.o.num e5;simp only[Un,placeOf];rw[if_neg oo];by_cases hd:aP (pk x.t.word 0)=true
    .rw[if_pos ⟨e5,hd⟩]
    .rw[if_neg (fun q=>hd q.2),Uo h0 (by simpa using hd)];rfl
   clear e5;go_wp2_with fail;refine(J6 x.t.word _ hwd).mono ?_;rintro e w3 ⟨hr,rfl⟩;rcases hr with⟨hn,rfl⟩|⟨k,hn,rfl⟩
   .have HN:Hid (xu l=none):=by show _=_;rw[HV.o,hn];rfl
    clear hn;go_wp2_with fail;go_ret2
    exact⟨.inl ⟨HN.o,_,rfl⟩,B2.o⟩
   .have HN:Hid (xu l=some (k+2)):=by show _=_;rw[HV.o,hn];rfl
    clear hn;go_wp2_with fail;go_ret2
    exact⟨.inr ⟨k+2,HN.o,by rw[BQ,if_neg oo,if_neg oo];rfl⟩,B2.o⟩
 .have HV:Hid (xu l=none):=by
   show _=_;rw[HP.o];match d,h1 with
   |[],_=>rfl
   |[x],h1=>exact absurd ⟨x,rfl⟩ h1
   |_::_::_,_=>rfl
  have hne:((d.length:Int) != 1)=true:=by
   simp;intro e;apply h1
   match d,e with
   |[x],_=>exact⟨x,rfl⟩
  obtain⟨a1,c1,rfl⟩:=S1.o.form;have hl3:=S1.o.len;clear h1 HP;go_wp2_with fail;go_ret2
  exact⟨.inl ⟨HV.o,_,rfl⟩,Below.refl _ _⟩
end
section
attribute [local go_sem] dH dI bQ bT
def sg(i:Nat):ByteArray:=if i=0 then b1 126 else if i=1 then b1 94 else if i=2 then b1 36 else b1 42
def xw(l:List Nd):Nat->ByteArray×List Nd
 |0=>(aA,l)
 |i+1=>if (xw l i).1=aA/\ay (hdN (xw l i).2).t (sg i)=true then(sg i,(xw l i).2.tail) else xw l i
def Aw(t:Tok):Bool:=ay t (b1 126)||ay t (b1 94)||ay t (b1 36)||ay t (b1 42)
def FV(l:List Nd):ByteArray:=if Aw (hdN l).t=true then(hdN l).t.word else aA
def rH(l:List Nd):List Nd:=if Aw (hdN l).t=true then l.tail else l
theorem tH{t:Tok}{s:ByteArray}(h:ay t s=true):t.word=s:=by simp[ay]at h;exact h.2
set_option linter.unusedSimpArgs false in
theorem Xt(l:List Nd):xw l 4=(FV l,rH l):=by
 have n0:sg 0≠aA:=by decide
 have n1:sg 1≠aA:=by decide
 have n2:sg 2≠aA:=by decide
 unfold FV rH Aw;have e0:b1 126=sg 0:=rfl;have e1:b1 94=sg 1:=rfl;have e2:b1 36=sg 2:=rfl;have e3:b1 42=sg 3:=rfl;rw[e0,e1,e2,e3];simp only[xw];cases h0:ay (hdN l).t (sg 0)
 .cases h1:ay (hdN l).t (sg 1)
  .cases h2:ay (hdN l).t (sg 2)
   .cases h3:ay (hdN l).t (sg 3)
    .simp[h0,h1,h2,h3]
    .simp[h0,h1,h2,h3,tH h3]
   .simp[h0,h1,h2,n2,tH h2]
  .simp[h0,h1,n1,tH h1]
 .simp[h0,n0,tH h0]
theorem RS(l:List Nd):∀i,(xw l i).1.size<=1
 |0=>by show(0:Nat)<=1;omega
 |i+1=>by
  unfold xw;split
  .show(sg i).size<=1;unfold sg;repeat' split
   all_goals decide
  .exact RS l i
theorem aeH:∀(i:Nat) (_:i<4) (W:World),(Instr.index 353 (.agg #[.string ⟨#[126]⟩,.string ⟨#[94]⟩,.string ⟨#[36]⟩,.string ⟨#[42]⟩]) (.int .i64 (i:Int))).run prog W=.ok (.string (sg i)) W
 |0,_,W=>(by kernel_rfl:(Instr.index 353 (.agg #[.string ⟨#[126]⟩,.string ⟨#[94]⟩,.string ⟨#[36]⟩,.string ⟨#[42]⟩]) (.int .i64 ((0:Nat):Int))).run prog W=.ok (.string (sg 0)) W)
 |1,_,W=>(by kernel_rfl:(Instr.index 353 (.agg #[.string ⟨#[126]⟩,.string ⟨#[94]⟩,.string ⟨#[36]⟩,.string ⟨#[42]⟩]) (.int .i64 ((1:Nat):Int))).run prog W=.ok (.string (sg 1)) W)
 |2,_,W=>(by kernel_rfl:(Instr.index 353 (.agg #[.string ⟨#[126]⟩,.string ⟨#[94]⟩,.string ⟨#[36]⟩,.string ⟨#[42]⟩]) (.int .i64 ((2:Nat):Int))).run prog W=.ok (.string (sg 2)) W)
 |3,_,W=>(by kernel_rfl:(Instr.index 353 (.agg #[.string ⟨#[126]⟩,.string ⟨#[94]⟩,.string ⟨#[36]⟩,.string ⟨#[42]⟩]) (.int .i64 ((3:Nat):Int))).run prog W=.ok (.string (sg 3)) W)
theorem aeI(w:World)(a b:ByteArray):(w.alloc (.cells #[.string a,.string b] 9)).ownsRow w.heap.size 9 1 (.slice (some ⟨w.heap.size,0,none⟩) 2 2) 2 ([a,b].map Value.string):=⟨rfl,.inr ⟨w.heap.size,2,_,rfl,Nat.le_refl _,heap_alloc_new w _,Nat.le_refl _,by unfold maxLen;omega,rfl,rfl⟩⟩
theorem Qk(B b:Nat)(sv:Value)(l:List Nd)(w:World)(h:iw B w b sv l):
  Calls prog 305 #[.pointer (some ⟨b,0,none⟩)] w fun e w'=>∃sv',e=.returned (.tuple #[.string (FV l++b1 61),.bool (ay (hdN (rH l)).t (b1 61))])/\iw B w' b sv' (wO (b1 61) (rH l))/\Turn b w w':=by
 have R1:Hid (iw B w b sv l):=h;clear h;go_in;go_wp2_with fail;go_loopg[4,8] 4 (fun g v4 v8 wr=>∃(i:Nat) (sv:Value) (kd:ByteArray) (cur:List Nd),i+g=4/\v8=.int .i64 (i:Int)/\v4=.string kd/\Aside (iw B wr b sv cur/\Turn b w wr/\xw l i=(kd,cur)));case atStart=>exact⟨0,sv,_,l,oo,rfl,rfl,R1.o,Turn.refl _ _,rfl⟩
 case round=>
  obtain⟨i,sv,kd,cur,hi,rfl,rfl,hA⟩:=hrel;have R2:Hid (iw B wr b sv cur):=hA.o.1;have T2:Hid (Turn b w wr):=hA.o.2.1;have HE:Hid (xw l i=(kd,cur)):=hA.o.2.2;clear hA R1;by_cases hlt:i<4
  .have h1:(i:Int)<4:=oo;have hix:=aeH i hlt;obtain⟨s,Hs⟩:∃s,Hid (sg i=s):=⟨_,hid rfl⟩;rw[Hs.o]at hix;cases hk:(kd.toList==([]:List UInt8))
   .have hk':¬kd=aA:=by rw[aH]at hk;simpa[aA]using hk
    have HN:Hid (xw l (i+1)=(kd,cur)):=by show _=_;unfold xw;rw[HE.o,if_neg (fun q=>hk' q.1)]
    clear hk';go_wp2_with fail;go_roundg(4-(i+1));case measure=>omega
    case rel=>exact⟨i+1,sv,kd,cur,oo,by congr 1,rfl,R2.o,T2.o,HN.o⟩
   .have hk':kd=aA:=by rw[aH]at hk;simpa[aA]using hk
    have HK:Hid (kd=aA):=hk';clear hk';go_wp2_with fail;refine(oq B b sv cur s _ R2.o).mono ?_;rintro e w3 ⟨BM,rfl,AY,J5⟩;have T3:Hid (Turn b w w3):=T2.o.trans J5;clear J5;obtain⟨c,Hc⟩:∃c,Hid (ay (hdN cur).t s=c):=⟨_,hid rfl⟩;rw[Hc.o];cases c
    .have R3:Hid (iw B w3 b BM cur):=by have:=AY;rw[vX Hc.o]at this;exact this
     have HN:Hid (xw l (i+1)=(kd,cur)):=by show _=_;unfold xw;rw[HE.o,Hs.o,if_neg (fun q=>by have:=q.2;rw[Hc.o]at this;cases this)]
     clear AY;go_wp2_with fail;go_roundg(4-(i+1));case measure=>omega
     case rel=>exact⟨i+1,BM,kd,cur,oo,by congr 1,rfl,R3.o,T3.o,HN.o⟩
    .have R3:Hid (iw B w3 b BM cur.tail):=by have:=AY;rw[pW Hc.o]at this;exact this
     have HN:Hid (xw l (i+1)=(s,cur.tail)):=by show _=_;unfold xw;rw[HE.o,Hs.o,if_pos ⟨HK.o,Hc.o⟩]
     clear AY;go_wp2_with fail;go_roundg(4-(i+1));case measure=>omega
     case rel=>exact⟨i+1,BM,s,cur.tail,oo,by congr 1,rfl,R3.o,T3.o,HN.o⟩
  .have h1:(4:Int)<=(i:Int):=oo;obtain rfl:i=4:=oo;have hsz:kd.size<=1:=by have:=RS l 4;rw[HE.o]at this;exact this
   have HE2:Hid (FV l=kd/\rH l=cur):=by have:=HE.o;rw[Xt]at this;exact⟨(Prod.mk.inj this).1,(Prod.mk.inj this).2⟩
   go_wp2_with fail;refine pmb (eG [kd,b1 61] wr.heap.size _ _ (aeI wr kd (b1 61)) (by simp) (by simp[total];have:(b1 61).size=1:=rfl;omega)) fun w3 hb3=>?_;have R3:Hid (iw B w3 b sv cur):=(R2.o.alloc _).below hb3;have T3:Hid (Turn b w w3):=(T2.o.alloc _).trans (Turn.of_below hb3);have HJ:Hid (aB [kd,b1 61]=kd++b1 61):=by show _=_;simp[aB]
   clear hb3;rw[HJ.o];go_wp2_with fail;refine(oq B b sv cur (b1 61) _ R3.o).mono ?_;rintro e w4 ⟨Vp,rfl,SN,Vq⟩;have R4:Hid (iw B w4 b Vp (wO (b1 61) cur)):=SN;have T4:Hid (Turn b w w4):=T3.o.trans Vq;clear SN Vq;go_wp2_with fail;go_ret2
   rw[HE2.o.1,HE2.o.2];exact⟨Vp,rfl,R4.o,T4.o⟩
end
section
attribute [local go_sem] dH dI bQ bT
def KP(l:List Nd):Prop:=∀x,l.getLast?=some x->x.t.kind≠1
theorem KP.tail{n:Nd}{r:List Nd}(h:KP (n::r)):KP r:=by
 intro x hx;cases r with
 |nil=>simp at hx
 |cons m q=>exact h x (by rw[List.getLast?_cons_cons];exact hx)
theorem KP.drop{l:List Nd}(h:KP l):KP (aC l):=by
 induction l with
 |nil=>exact h
 |cons n r ih=>
  by_cases hk:n.t.kind=1
  .rw[jm hk];exact ih h.tail
  .rw[jo hk];exact h
theorem KP.trim{l:List Nd}(h:KP l):kG l=l:=by
 rcases Rh l with rfl|⟨i,x,rfl⟩
 .rfl
 .exact uN (h x (by simp))
theorem KP.bare{l:List Nd}(h:KP l):bare l=aC l:=by unfold Sp.bare;exact h.drop.trim
theorem Ql{l:List Nd}{n:Nd}{r:List Nd}(h:aC l=n::r):n.t.kind≠1:=by
 induction l with
 |nil=>simp[aC]at h
 |cons m q ih=>
  by_cases hk:m.t.kind=1
  .rw[jm hk]at h;exact ih h
  .rw[jo hk]at h;cases h;exact hk
theorem KP.RU(l:List Nd):KP (Sp.bare l):=by
 intro x hx;unfold Sp.bare kG at hx;cases hd:aC (aC l).reverse with
 |nil=>rw[hd]at hx;simp at hx
 |cons n r=>rw[hd]at hx;simp at hx;subst hx;exact Ql hd
def Il(k:Int)(l2:List Nd):Bool:=(ay (hdN l2).t (b1 61)&&((k==14)&&((hdN (aC (wO (b1 61) l2))).t.kind==14||(hdN (aC (wO (b1 61) l2))).t.kind==2)))&&(aC (wO (b1 61) l2)).tail.length==0
def ND(d:List Nd):Bool:=Il (hdN d).t.kind (rH (aC d.tail))
def uz(d:List Nd):Option Simple:=
 if aC d.tail=[] then(if (hdN d).t.kind=14 then some (Simple.of 91 (hdN d).t.word) else none)
 else if ND d=true then some (.mk 91 (hdN d).t.word (FV (aC d.tail)++b1 61) (hdN (aC (wO (b1 61) (rH (aC d.tail))))).t.word [] 0) else none
theorem aaJ:(hdN []).t.kind=0:=rfl
theorem FW{t:Tok}{s:ByteArray}(h:t.kind≠15):ay t s=false:=by simp[ay,h]
theorem Xu{t:Tok}(h:t.kind=15):Aw t=decide (t.word=b1 126\/t.word=b1 94\/t.word=b1 36\/t.word=b1 42):=by unfold Aw ay;simp only[h,decide_true,Bool.true_and,Bool.decide_or,Bool.or_assoc]
theorem Xv{d:List Nd}(hd:KP d):dh d=uz d:=by
 cases d with
 |nil=>rfl
 |cons n r=>
  have hr:KP r:=hd.tail;have hn:(hdN (n::r))=n:=rfl;have hcase:aC r=[]\/∃m r1,aC r=m::r1:=by
   cases aC r with
   |nil=>exact .inl rfl
   |cons m r1=>exact .inr ⟨m,r1,rfl⟩
  unfold dh uz;rcases hcase with hl|⟨m,r1,hl⟩
  .simp only[List.tail_cons,hr.bare,hl,hn,if_true];by_cases hk:n.t.kind=14
   .rw[if_neg oo,if_pos hk]
   .rw[if_pos hk,if_neg hk]
  .simp only[List.tail_cons,hr.bare,hl];rw[if_neg (by simp:¬(m::r1=[]))];have hm:KP (m::r1):=by rw[<-hl];exact hr.drop
   by_cases hk:n.t.kind=14
   .rw[if_neg oo];by_cases h15:m.t.kind=15
    .rw[if_neg oo];have hrel:=Xu h15;have hhm:hdN (m::r1)=m:=rfl;have key:∀(l2:List Nd) (hw:ByteArray),KP l2->rH (aC r)=l2->FV (aC r)=hw ->
       (match l2 with
        |[]=>none
        |q::r2=>match Sp.bare r2 with
         |[v]=>if dY q (b1 61)=true/\(v.t.kind=14\/v.t.kind=2) then some (Simple.mk 91 n.t.word (hw++b1 61) v.t.word [] 0) else none
         |_=>none) =
       if ND (n::r)=true then some (Simple.mk 91 (hdN (n::r)).t.word (FV (m::r1)++b1 61) (hdN (aC (wO (b1 61) (rH (m::r1))))).t.word [] 0) else none:=by
      intro l2 hw hl2 e1 e2;rw[show ND (n::r)=Il n.t.kind (rH (aC r)) from rfl,<-hl,e1,e2,hn];unfold Il;cases l2 with
      |nil=>rw[vG];rfl
      |cons q r2=>
       have hq:hdN (q::r2)=q:=rfl;rw[hq];simp only;rw[(hl2.tail).bare];cases hs:ay q.t (b1 61)
       .simp only[dY,hs];cases aC r2 with
        |nil=>rfl
        |cons v q2=>cases q2<;>simp
       .have ho:wO (b1 61) (q::r2)=r2:=pW hs;rw[ho];simp only[dY,hs];cases hv:aC r2 with
        |nil=>simp[hdN,Tok.k]
        |cons v q2=>
         cases q2 with
         |nil=>simp[hdN,hk]
         |cons v2 q3=>simp
     by_cases hh:m.t.word=b1 126\/m.t.word=b1 94\/m.t.word=b1 36\/m.t.word=b1 42
     .have hi:Aw m.t=true:=by rw[hrel,decide_eq_true hh]
      simp only[if_pos hh];exact key r1 m.t.word hm.tail (by rw[hl];unfold rH;rw[hhm,if_pos hi];rfl) (by rw[hl];unfold FV;rw[hhm,if_pos hi])
     .have hi:¬Aw m.t=true:=by rw[hrel,decide_eq_false hh];simp
      simp only[if_neg hh];exact key (m::r1) aA hm (by rw[hl];unfold rH;rw[hhm,if_neg hi]) (by rw[hl];unfold FV;rw[hhm,if_neg hi])
    .rw[if_pos h15];have hi:Aw m.t=false:=by unfold Aw;simp[FW h15]
     have:ND (n::r)=false:=by
      rw[show ND (n::r)=Il n.t.kind (rH (aC r)) from rfl,hl];unfold Il;have:rH (m::r1)=m::r1:=by unfold rH;rw[show hdN (m::r1)=m from rfl,hi];rfl
      rw[this,show hdN (m::r1)=m from rfl,FW h15];rfl
     rw[this];rfl
   .rw[if_pos hk];have:ND (n::r)=false:=by
     rw[show ND (n::r)=Il n.t.kind (rH (aC r)) from rfl];unfold Il;simp[hk]
    rw[this];rfl
end
section
attribute [local go_sem] dH dI bQ bT
theorem yT(nm h v:ByteArray)(lv:Value)(p:Nat):jE 91 nm h v lv p=.iface 343 (.agg #[.string nm,.string h,.string v]):=by unfold jE;rw[if_neg oo,if_neg oo,if_neg oo,if_pos rfl]
theorem iw.new{B:Nat}{w:World}{v:Value}{l:List Nd}(h:Sl (fun k=>k<B) w v l)(hB:B<=w.heap.size):iw B (w.alloc (.cells #[v] 262)) w.heap.size v l:=⟨heap_alloc_new w _,h.below ((Below.refl w.heap.size w).alloc nl _) hB,hB⟩
theorem Turn.over{b:Nat}{w w1 w':World}(h0:Below w.heap.size w w1)(h:Turn b w1 w')(hb:w.heap.size<=b):Below w.heap.size w w':=h0.trans ⟨h.os,h.tape,h.output,h.size,fun k hk=>h.block k (by have:=h0.size;omega) oo⟩
def adE(o:Option Simple)(e:Ending):Prop:=
 match o with
 |none=>∃pv,e=.returned (.tuple #[pv,.bool false])
 |some (.mk k nm h v _ p)=>e=.returned (.tuple #[jE k nm h v (.slice none 0 0) p,.bool true])
theorem Qm(B:Nat)(l:List Nd)(v:Value)(w:World)(h:Sl (fun b=>b<B) w v l)(hB:B<=w.heap.size):
  Calls prog 287 #[v] w fun e w'=>adE (dh (bare l)) e/\Below w.heap.size w w':=by
 have HS:Hid (Sl (fun b=>b<B) w v l):=h;clear h;have HE:Hid (dh (bare l)=uz (bare l)):=Xv (KP.RU l);obtain⟨d,Hd⟩:∃d,Hid (bare l=d):=⟨_,hid rfl⟩;rw[Hd.o]at HE;rw[Hd.o,HE.o];clear HE;obtain⟨a,cap,rfl⟩:=HS.o.form;go_in;go_wp2_with fail;refine(uP B l _ w HS.o).mono ?_;rw[Hd.o];rintro e w1 ⟨v1,rfl,hS1,rfl⟩;obtain⟨va,vc,rfl⟩:=hS1.form;have R1:Hid (iw B (w1.alloc (.cells #[.slice va d.length vc] 262)) w1.heap.size (.slice va d.length vc) d):=iw.new hS1 hB;have B1:Hid (Below w1.heap.size w1 (w1.alloc (.cells #[.slice va d.length vc] 262))):=(Below.refl _ _).alloc nl _;clear hS1 HS;go_upto_region 2 with fail
 generalize w1.alloc (.cells #[.slice va d.length vc] 262)=w2 at *;obtain⟨b,Hb⟩:∃b,Hid (w1.heap.size=b):=⟨_,hid rfl⟩;have R2:Hid (iw B w2 b (.slice va d.length vc) d):=by rw[<-Hb.o];exact R1
 clear R1;rw[Hb.o];obtain⟨n,Hn⟩:∃n,Hid (hdN d=n):=⟨_,hid rfl⟩;go_wp2_with fail;refine(qE B b _ d _ R2.o).mono ?_;rw[Hn.o];rintro e w3 ⟨kv3,BM,rfl,hk3,AY,J5⟩;obtain⟨ka,kc,rfl⟩:=hk3.form;have T3:Hid (Turn b w2 w3):=J5;have R3:Hid (iw B w3 b BM d.tail):=AY;clear hk3 AY J5 R2;unfold dM;have A4:Hid (VB (w3.alloc (.cells #[.int .i64 n.t.kind,.string n.t.word,.string n.t.unit,.slice ka n.kids.length kc] 168)) w3.heap.size (.int .i64 n.t.kind) (.string n.t.word) (.string n.t.unit) (.slice ka n.kids.length kc)):=VB.new _ _ _ _ _;have R4:Hid (iw B (w3.alloc (.cells #[.int .i64 n.t.kind,.string n.t.word,.string n.t.unit,.slice ka n.kids.length kc] 168)) b BM d.tail):=R3.o.alloc _;have T4:Hid (Turn b w2 (w3.alloc (.cells #[.int .i64 n.t.kind,.string n.t.word,.string n.t.unit,.slice ka n.kids.length kc] 168))):=T3.o.alloc _;have hb3:b<w3.heap.size:=R3.o.lt
 clear R3 T3;go_upto_region 3 with fail
 generalize w3.alloc (.cells #[.int .i64 n.t.kind,.string n.t.word,.string n.t.unit,.slice ka n.kids.length kc] 168)=w4 at *;generalize w3.heap.size=gn at *;obtain⟨r1,Hr1⟩:∃r1,Hid (aC d.tail=r1):=⟨_,hid rfl⟩;go_wp2_with fail;refine(vY B b _ _ _ R4.o).mono ?_;rw[Hr1.o];rintro e w5 ⟨sv5,rfl,hR5,hT5⟩;have R5:Hid (iw B w5 b sv5 r1):=hR5;have T5:Hid (Turn b w2 w5):=T4.o.trans hT5;have A5:Hid (VB w5 gn (.int .i64 n.t.kind) (.string n.t.word) (.string n.t.unit) (.slice ka n.kids.length kc)):=A4.o.turn hT5 oo;clear hR5 hT5 R4 T4 A4;go_wp2_with fail;refine(sJ B b _ _ _ R5.o).mono ?_;rintro e w6 ⟨rfl,rfl⟩;obtain⟨a0,a1,a2,a3⟩:=A5.o.cs;by_cases hr1:r1=[]
 .subst hr1;cases hk:(n.t.kind==14)
  .have HV:Hid (uz d=none):=by
    show _=_;unfold uz;rw[if_pos Hr1.o,Hn.o,if_neg (by simpa using hk)]
   go_wp2_with fail;go_quiet (fail)
   go_wp2_with fail;go_ret2
   exact⟨by rw[HV.o];exact⟨_,rfl⟩,Turn.over B1.o (T5.o.drewN _) (by rw[Hb.o];exact Nat.le_refl _)⟩
  .have HV:Hid (uz d=some (.mk 91 n.t.word aA aA [] 0)):=by
    show _=_;unfold uz;rw[if_pos Hr1.o,Hn.o,if_pos (by simpa using hk)];rfl
   go_wp2_with fail;go_quiet (fail)
   go_wp2_with fail;go_ret2
   exact⟨by rw[HV.o];show _=_;rw[yT];rfl,Turn.over B1.o (T5.o.drewN _) (by rw[Hb.o];exact Nat.le_refl _)⟩
 .have hl1:(r1.length==0)=false:=by
   cases r1 with
   |nil=>exact absurd rfl hr1
   |cons x y=>rfl
  have HV:Hid (uz d=if Il n.t.kind (rH r1)=true then some (.mk 91 n.t.word (FV r1++b1 61) (hdN (aC (wO (b1 61) (rH r1)))).t.word [] 0) else none):=by show _=_;unfold uz ND;rw[if_neg (by rw[Hr1.o];exact hr1),Hn.o,Hr1.o]
  clear hr1;obtain⟨how,adF⟩:∃x,Hid (FV r1++b1 61=x):=⟨_,hid rfl⟩;obtain⟨l2,Hl2⟩:∃x,Hid (rH r1=x):=⟨_,hid rfl⟩;obtain⟨eq,Heq⟩:∃x,Hid (ay (hdN l2).t (b1 61)=x):=⟨_,hid rfl⟩;obtain⟨l4,Hl4⟩:∃x,Hid (aC (wO (b1 61) l2)=x):=⟨_,hid rfl⟩;obtain⟨m,Hm⟩:∃x,Hid (hdN l4=x):=⟨_,hid rfl⟩;have HQ:Hid (Il n.t.kind (rH r1)=((eq&&((n.t.kind==14)&&(m.t.kind==14||m.t.kind==2)))&&(l4.tail.length==0))):=by show _=_;unfold Il;rw[Hl2.o,Heq.o,Hl4.o,Hm.o]
  have rF:Hid (uz d=if ((eq&&((n.t.kind==14)&&(m.t.kind==14||m.t.kind==2)))&&(l4.tail.length==0))=true then some (.mk 91 n.t.word how m.t.word [] 0) else none):=by show _=_;rw[HV.o,HQ.o,adF.o,Hl2.o,Hl4.o,Hm.o]
  clear HV HQ;go_wp2_with fail;refine(Qk B b _ _ _ R5.o).mono ?_;rw[adF.o,Hl2.o,Heq.o];rintro e w7 ⟨sv7,rfl,hR7,hT7⟩;have R7:Hid (iw B w7 b sv7 (wO (b1 61) l2)):=hR7;have T7:Hid (Turn b w2 w7):=T5.o.trans hT7;have A7:Hid (VB w7 gn (.int .i64 n.t.kind) (.string n.t.word) (.string n.t.unit) (.slice ka n.kids.length kc)):=A5.o.turn hT7 oo;clear hR7 hT7 R5 T5 A5 a0 a1 a2 a3;go_wp2_with fail;refine(vY B b _ _ _ R7.o).mono ?_;rw[Hl4.o];rintro e w8 ⟨sv8,rfl,hR8,hT8⟩;have R8:Hid (iw B w8 b sv8 l4):=hR8;have T8:Hid (Turn b w2 w8):=T7.o.trans hT8;have A8:Hid (VB w8 gn (.int .i64 n.t.kind) (.string n.t.word) (.string n.t.unit) (.slice ka n.kids.length kc)):=A7.o.turn hT8 oo;clear hR8 hT8 R7 T7 A7;go_wp2_with fail;refine(qE B b _ _ _ R8.o).mono ?_;rw[Hm.o];rintro e w9 ⟨kv9,sv9,rfl,hk9,hR9,hT9⟩;obtain⟨ma,mc,rfl⟩:=hk9.form
  have R9:Hid (iw B w9 b sv9 l4.tail):=hR9;have T9:Hid (Turn b w2 w9):=T8.o.trans hT9;have A9:Hid (VB w9 gn (.int .i64 n.t.kind) (.string n.t.word) (.string n.t.unit) (.slice ka n.kids.length kc)):=A8.o.turn hT9 oo;clear hk9 hR9 hT9 R8 T8 A8;unfold dM;have M10:Hid (VB (w9.alloc (.cells #[.int .i64 m.t.kind,.string m.t.word,.string m.t.unit,.slice ma m.kids.length mc] 168)) w9.heap.size (.int .i64 m.t.kind) (.string m.t.word) (.string m.t.unit) (.slice ma m.kids.length mc)):=VB.new _ _ _ _ _;have R10:Hid (iw B (w9.alloc (.cells #[.int .i64 m.t.kind,.string m.t.word,.string m.t.unit,.slice ma m.kids.length mc] 168)) b sv9 l4.tail):=R9.o.alloc _;have T10:Hid (Turn b w2 (w9.alloc (.cells #[.int .i64 m.t.kind,.string m.t.word,.string m.t.unit,.slice ma m.kids.length mc] 168))):=T9.o.alloc _
  have A10:Hid (VB (w9.alloc (.cells #[.int .i64 m.t.kind,.string m.t.word,.string m.t.unit,.slice ma m.kids.length mc] 168)) gn (.int .i64 n.t.kind) (.string n.t.word) (.string n.t.unit) (.slice ka n.kids.length kc)):=A9.o.alloc _;clear R9 T9 A9;go_upto_region 9 with fail
  generalize w9.alloc (.cells #[.int .i64 m.t.kind,.string m.t.word,.string m.t.unit,.slice ma m.kids.length mc] 168)=w10 at *;generalize w9.heap.size=gm at *;obtain⟨a0,a1,a2,a3⟩:=A10.o.cs;obtain⟨c0,c1,c2,c3⟩:=M10.o.cs;cases eq
  .have HN:Hid (uz d=none):=by show _=_;rw[rF.o];rfl
   go_wp2_with fail;go_ret2
   exact⟨by rw[HN.o];exact⟨_,rfl⟩,Turn.over B1.o T10.o (by rw[Hb.o];exact Nat.le_refl _)⟩
  .cases kn:(n.t.kind==14)
   .have HN:Hid (uz d=none):=by show _=_;rw[rF.o];simp[kn]
    go_wp2_with fail;go_ret2
    exact⟨by rw[HN.o];exact⟨_,rfl⟩,Turn.over B1.o T10.o (by rw[Hb.o];exact Nat.le_refl _)⟩
   .cases v14:(m.t.kind==14)
    .cases v2:(m.t.kind==2)
     .have HN:Hid (uz d=none):=by show _=_;rw[rF.o];simp[kn,v14,v2]
      go_wp2_with fail;go_ret2
      exact⟨by rw[HN.o];exact⟨_,rfl⟩,Turn.over B1.o T10.o (by rw[Hb.o];exact Nat.le_refl _)⟩
     .go_wp2_with fail;refine(sJ B b _ _ _ R10.o).mono ?_;rintro e YD ⟨rfl,rfl⟩;obtain⟨z,Hz⟩:∃z,Hid ((l4.tail.length==0)=z):=⟨_,hid rfl⟩;rw[Hz.o];cases z
      .have HN:Hid (uz d=none):=by show _=_;rw[rF.o,Hz.o];simp
       go_wp2_with fail;go_ret2
       exact⟨by rw[HN.o];exact⟨_,rfl⟩,Turn.over B1.o T10.o (by rw[Hb.o];exact Nat.le_refl _)⟩
      .have HN:Hid (uz d=some (.mk 91 n.t.word how m.t.word [] 0)):=by show _=_;rw[rF.o,Hz.o];simp[kn,v14,v2]
       go_wp2_with fail;go_ret2
       exact⟨by rw[HN.o];show _=_;rw[yT];rfl,Turn.over B1.o T10.o (by rw[Hb.o];exact Nat.le_refl _)⟩
    .go_wp2_with fail;refine(sJ B b _ _ _ R10.o).mono ?_;rintro e YD ⟨rfl,rfl⟩;obtain⟨z,Hz⟩:∃z,Hid ((l4.tail.length==0)=z):=⟨_,hid rfl⟩;rw[Hz.o];cases z
     .have HN:Hid (uz d=none):=by show _=_;rw[rF.o,Hz.o];simp
      go_wp2_with fail;go_ret2
      exact⟨by rw[HN.o];exact⟨_,rfl⟩,Turn.over B1.o T10.o (by rw[Hb.o];exact Nat.le_refl _)⟩
     .have HN:Hid (uz d=some (.mk 91 n.t.word how m.t.word [] 0)):=by show _=_;rw[rF.o,Hz.o];simp[kn,v14]
      go_wp2_with fail;go_ret2
      exact⟨by rw[HN.o];show _=_;rw[yT];rfl,Turn.over B1.o T10.o (by rw[Hb.o];exact Nat.le_refl _)⟩
end
end Go.Proofs.YtlliliddljkbfaaGreatDoor
