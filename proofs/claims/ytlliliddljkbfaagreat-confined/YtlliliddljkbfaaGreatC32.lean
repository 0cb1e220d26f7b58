import Derived.Test.YtlliliddljkbfaaGreatC31
set_option maxHeartbeats 64000000
set_option maxRecDepth 100000
namespace Go.Proofs.YtlliliddljkbfaaGreat
open Go.Proofs.Tryz (prog)
open Go.RowKit Sp
open Go.ChangeMaps (setBlock)
theorem afp{p:aI}{V:Nat->BY->Option (List Nd)}{lp:Nat->BY->Bool}{e:Nat}{q t:BY}(h:Cv p V lp e q t):CvI p V lp (e:Int) q t:=by unfold CvI;rw[if_neg oo];exact h
theorem N8(B:Nat)(p:aI)(a:Option Addr)(cap:Nat)(wa:Option Addr)(wc:Nat)(bs:List Nat)(kb:Nat)(F:Nat->BY->Option jS)(lp:Nat->BY->Bool){e:Int}(s:BY)(he:e<0):DX B p a cap wa wc bs kb F lp e s:=by
 intro w h;have B0:Hid (Below w.heap.size w (w.alloc (.cells #[.slice a p.length cap,.slice wa bs.length wc,.map (some kb)] 77))):=Ax.alloc nl _;have HV:Hid (CvI p (kJ F) lp e s aA):=by unfold CvI;rw[if_pos he];exact rfl
 have HK:Hid (kX (w.alloc (.cells #[.slice a p.length cap,.slice wa bs.length wc,.map (some kb)] 77)) kb p F lp):=(h.below B0.o).DU;have HT:Hid (Turn kb w (w.alloc (.cells #[.slice a p.length cap,.slice wa bs.length wc,.map (some kb)] 77))):=Turn.of_below B0.o;clear h;go_in;go_wp2_with fail;go_ret;exact⟨⟨aA,rfl,HV.o⟩,HK.o,HT.o⟩
theorem Ya(B:Nat)(p:aI)(a:Option Addr)(cap:Nat)(wa:Option Addr)(wc:Nat)(bs:List Nat)(kb:Nat)(F:Nat->BY->Option jS)(lp:Nat->BY->Bool)(e:Nat)(s:BY)(he:e<p.length)(hs:s.size<=4000000)
  (hf:∀(w:WD),lV B w p a cap wa wc bs kb F lp->Calls prog 63 #[.agg #[.slice a p.length cap,.slice wa bs.length wc,.map (some kb)],.int .i64 (e:Int),.string s] w
   fun ex w'=>(∃t,ex=.returned (.string t)/\Cv p (kJ F) lp e s t)/\kX w' kb p F lp/\Turn kb w w'):DX B p a cap wa wc bs kb F lp (e:Int) s:=by
 intro w h;have B0:Hid (Below w.heap.size w ((w.alloc (.cells #[.slice a p.length cap,.slice wa bs.length wc,.map (some kb)] 77)).alloc (.cells #[.int .i64 (e:Int),.string s] 133))):=(Ax.alloc nl _).alloc Ab _;have K0:Hid (K3 ((w.alloc (.cells #[.slice a p.length cap,.slice wa bs.length wc,.map (some kb)] 77)).alloc (.cells #[.int .i64 (e:Int),.string s] 133)) w.heap.size (.slice a p.length cap) (.slice wa bs.length wc) (.map (some kb))):=(K3.new _ _ _ _).below (Ax.alloc nl _);have Q0:Hid (Qb ((w.alloc (.cells #[.slice a p.length cap,.slice wa bs.length wc,.map (some kb)] 77)).alloc (.cells #[.int .i64 (e:Int),.string s] 133)) (w.heap.size+1) (.int .i64 (e:Int)) (.string s)):=by have:=Qb.new (w.alloc (.cells #[.slice a p.length cap,.slice wa bs.length wc,.map (some kb)] 77)) (.int .i64 (e:Int)) (.string s);show Qb _ _ _ _;simpa using this
 have S0:=hid (h.below B0.o);have hkl:=h.DU.lt;have hlen:=h.cas.pg.len;have HFD:=hid hf;clear h hf;go_in;go_upto_region 4 with fail
 generalize(w.alloc (.cells #[.slice a p.length cap,.slice wa bs.length wc,.map (some kb)] 77)).alloc (.cells #[.int .i64 (e:Int),.string s] 133)=w0 at *;obtain⟨cb,Hcb⟩:=Nm w.heap.size;rw[Hcb.o]at K0 Q0;rw[Hcb.o];have hcb:=Hcb.o;obtain⟨k0,k1,k2⟩:=K0.o.cs;obtain⟨q0,q1⟩:=Q0.o.cs;have hsz:=B0.o.size;rcases S0.o.DU.look (e:=e) (s:=s) oo hs with⟨t,hlk,hcv⟩|hlk
 .have wH:=hid (afp hcv);clear hcv;have B1:Hid (Below w0.heap.size w0 (w0.alloc (.cells #[.string t] 135))):=Ax.alloc nl _;have V1:Hid (bU (w0.alloc (.cells #[.string t] 135)) w0.heap.size (.string t) 135):=bU.new _ _ _;go_upto_region 5 with fail
  generalize w0.alloc (.cells #[.string t] 135)=w1 at *;have S1:=hid (S0.o.below B1.o);have HT:Hid (Turn kb w w1):=Turn.of_below (B0.o.trans (B1.o.mono hsz));have c1:=V1.o.c;clear k0 k1 k2 q0 q1 hlk;go_wp2_with fail;go_ret;exact⟨⟨_,rfl,wH.o⟩,S1.o.DU,HT.o⟩
 .have B1:Hid (Below w0.heap.size w0 (w0.alloc (.cells #[.string ⟨#[]⟩] 135))):=Ax.alloc nl _;go_upto_region 5 with fail
  generalize w0.alloc (.cells #[.string ⟨#[]⟩] 135)=w1 at *;have S1:=hid (S0.o.below B1.o);have K1:=hid (K0.o.below B1.o);have Q1:=hid (Q0.o.below B1.o);have BW:=hid (B0.o.trans (B1.o.mono hsz));clear k0 k1 k2 q0 q1 hlk;obtain⟨k0,k1,k2⟩:=K1.o.cs;obtain⟨q0,q1⟩:=Q1.o.cs;go_wp2_with fail;refine(HFD.o w1 S1.o).mono ?_;rintro ex w2 ⟨⟨t,rfl,hcv⟩,hk2,ht2⟩;have wH:=hid (afp hcv);have hne1:cb≠kb:=oo;have hne2:cb+1≠kb:=oo;have K2:Hid (K3 w2 cb (.slice a p.length cap) (.slice wa bs.length wc) (.map (some kb))):=(show _=_ from(ht2.block cb (K3.lt K1.o) hne1).trans K1.o);have Q2:Hid (Qb w2 (cb+1) (.int .i64 (e:Int)) (.string s)):=(show _=_ from(ht2.block (cb+1) (Qb.lt Q1.o) hne2).trans Q1.o);have HT2:Hid (Turn kb w w2):=(Turn.of_below BW.o).trans ht2;obtain⟨o,hr,hM⟩:=hk2.upd (e:=e) (s:=s) oo hs hcv
  have hr':(Instr.mapUpdate 75 (.map (some kb)) (.agg #[.int .i64 (e:Int),.string s]) (.agg #[.string t])).run prog w2=.ok () (setBlock w2 kb o):=hr;have HM:=hid hM;have HT3:Hid (Turn kb w (setBlock w2 kb o)):=aej HT2.o;clear hk2 ht2 hr hM hcv k0 k1 k2 q0 q1;obtain⟨k0,k1,k2⟩:=K2.o.cs;obtain⟨q0,q1⟩:=Q2.o.cs;go_wp2_with fail;go_ret;exact⟨⟨_,rfl,wH.o⟩,HM.o,HT3.o⟩
mutual
theorem akx:∀(n:Nd),gN n->∀z∈nmN n,z.size<=4000000/\custom z=true
 |.mk t k,h,z,hz=>by
  simp only[gN]at h;unfold nmN at hz;rcases List.mem_append.1 hz with hz|hz
  .split at hz
   .unfold nmV at hz;split at hz
    .rename_i x hx;obtain⟨nm,hf,fb⟩:=x;rw[List.mem_singleton.1 hz];obtain⟨_,n,hn,_,e2,e3⟩:=KD hx;have:=((Ba n).1 ((yh k).1 h.2.2.2 n hn)).1.word;rw[e2]at this;exact⟨this,e3⟩
    .cases hz
   .cases hz
  .exact Yb k h.2.2.2 z hz
theorem Yb:∀(l:List Nd),gL l->∀z∈lW l,z.size<=4000000/\custom z=true
 |[],_,z,hz=>by rw[PV]at hz;cases hz
 |n::r,h,z,hz=>by
  simp only[gL]at h;rw[yM]at hz;rcases List.mem_append.1 hz with hz|hz
  .exact akx n h.1 z hz
  .exact Yb r h.2 z hz
end
theorem Yc{nb:BY->List BY}{a b:BY}(hc:∀y,∀z∈nb y,custom z=true)(h:Sp.Way nb a b):custom b=true:=by
 cases h with
 |one hb=>exact hc _ _ hb
 |more _ hb=>exact hc _ _ hb
theorem abK(B:Nat)(p:aI)(a:Option Addr)(cap:Nat)(wa:Option Addr)(wc:Nat)(bs:List Nat)(kb:Nat)(F:Nat->BY->Option jS)(lp:Nat->BY->Bool)(hF:∀e q x,F e q=some x->afo x.val)(U:Nat->List BY)(hUl:∀e,(U e).length<=50000)(hU:∀e q,∀z∈yO (kJ F) e q,z∈U e)
  (hlp:∀e s,lp e s=true↔Sp.Way (yO (kJ F) e) s s) (hp:∀i,i<p.length->parentOf p i<i):
  ∀(n:Nat) (e:Int),e<n->e<p.length->∀s,s.size<=4000000->DX B p a cap wa wc bs kb F lp e s:=by
 have hok:∀e q,∀z∈yO (kJ F) e q,z.size<=4000000/\custom z=true:=by
  intro e q z hz;cases hf:F e q with
  |none=>rw[DW hf]at hz;cases hz
  |some x=>rw[yR hf]at hz;exact Yb x.val (hF e q x hf).g z hz
 intro n;induction n with
 |zero=>intro e h _ s _;exact N8 _ _ _ _ _ _ _ _ _ _ s oo
 |succ n ih=>
  intro e h1 h2 s hs;by_cases h0:e<0
  .exact N8 _ _ _ _ _ _ _ _ _ _ s h0
  .obtain⟨k,rfl⟩:∃k:Nat,e=k:=⟨e.toNat,oo⟩;have hk:k<p.length:=oo;have hpk:=hp k hk;have hpar:∀q,q.size<=4000000->DX B p a cap wa wc bs kb F lp (parentOf p k) q:=fun q hq=>ih _ oo oo q hq;have one:∀q,q.size<=4000000->((custom q&&lp k q)=false->∀nm∈yO (kJ F) k q,DX B p a cap wa wc bs kb F lp (k:Int) nm)->DX B p a cap wa wc bs kb F lp (k:Int) q:=fun q hq hnm=>
    Ya B p a cap wa wc bs kb F lp k q hk hq fun w hC=>akw B p a cap wa wc bs kb F lp k q w hC hq hk (hpar q hq) hF (U k) (hUl k) (fun y z hz=>⟨hU k y z hz,(hok k y z hz).1⟩) (hlp k q) hnm
   have inner:∀(m:Nat) (P:BY->Nat) (q:BY),q∈U k->q.size<=4000000->unS (U k) P<m->(∀x,P x≠0->Sp.Way (yO (kJ F) k) x q)->DX B p a cap wa wc bs kb F lp (k:Int) q:=by
    intro m;induction m with
    |zero=>intro P q _ _ hm;omega
    |succ m ihm=>
     intro P q hq hqs hm hP;refine one q hqs fun hf nm hnm=>?_;by_cases hPq:P q=0
     .have hun:=afi (U k) P q hq hPq;refine ihm (Ea P q) nm (hU k q nm hnm) (hok k q nm hnm).1 oo fun x hx=>?_;by_cases hxq:x=q
      .rw[hxq];exact .one hnm
      .exact .more (hP x (by unfold Ea at hx;rwa[if_neg hxq]at hx)) hnm
     .have hw:=hP q hPq;rw[Yc (fun y z hz=>(hok k y z hz).2) hw,(hlp k q).2 hw]at hf;cases hf
   exact one s hs fun _ nm hnm=>inner (unS (U k) (fun _=>0)+1) (fun _=>0) nm (hU k s nm hnm) (hok k s nm hnm).1 oo fun x hx=>absurd rfl hx
section
def yT(F:lI)(p:aI)(sh:List BY)(i:Nat):BY->Option jS:=wZ F p i (fun _=>none) (sh.map KR)
def PQ(Q:List Nd->Prop)(g:BY->Option jS):Prop:=∀s x,g s=some x->Q x.val
section
variable {Q:List Nd->Prop}
theorem ahW{g:BY->Option jS}{x:jS}(h:PQ Q g)(hx:Q x.val):PQ Q (zG g x):=by
 intro s y hy;unfold zG at hy;split at hy
 .split at hy
  .cases hy;exact hx
  .rename_i z hz;split at hy
   .cases hy;exact hx
   .cases hy;exact h _ _ hz
 .exact h s y hy
theorem ZH{t:lU}:∀(ds:List Dec) (g:BY->Option jS),PQ Q g->(∀d∈ds,Q d.val)->PQ Q (ds.foldl (Py t) g)
 |[],_,h,_=>h
 |d::r,_,h,hd=>ZH r _ (ahW h (hd d List.mem_cons_self)) (fun x hx=>hd x (List.mem_cons_of_mem _ hx))
theorem ahX{F:lI}{p:aI}{r:Rule}{i:Nat}{g:BY->Option jS}(h:PQ Q g)(hr:∀d∈decls (r.body.getD []),Q d.val):PQ Q (yJ F p r i g):=by
 unfold yJ;split
 .exact h
 .split
  .unfold qg;split
   .exact ZH _ _ h hr
   .exact h
  .exact h
theorem afq{F:lI}{p:aI}{i:Nat}:∀(rs:List Rule) (g:BY->Option jS),PQ Q g->(∀r∈rs,∀d∈decls (r.body.getD []),Q d.val)->PQ Q (Gl F p i g rs)
 |[],_,h,_=>h
 |r::rs,_,h,hr=>afq rs _ (ahX h (hr r List.mem_cons_self)) (fun x hx=>hr x (List.mem_cons_of_mem _ hx))
theorem afr{F:lI}{p:aI}{i:Nat}:∀(ss:List (List Rule)) (g:BY->Option jS),PQ Q g->(∀s∈ss,∀r∈s,∀d∈decls (r.body.getD []),Q d.val)->PQ Q (wZ F p i g ss)
 |[],_,h,_=>h
 |s::ss,_,h,hr=>afr ss _ (afq s _ h (hr s List.mem_cons_self)) (fun x hx=>hr x (List.mem_cons_of_mem _ hx))
end
theorem ZI{Q:List Nd->Prop}{F:lI}{p:aI}{sh:List BY}(h:∀s∈sh,∀r∈KR s,∀d∈decls (r.body.getD []),Q d.val):∀e q x,yT F p sh e q=some x->Q x.val:=by intro e;refine afr (sh.map KR) _ (fun _ _ h=>by cases h) ?_;intro rs hm r hr;obtain⟨s,hs,rfl⟩:=List.mem_map.1 hm;exact h s hs r hr
theorem Yd:decls []=[]:=by unfold decls fF;rfl
theorem afs{s:BY}(hs:s.size<=600)(hd:depth (bH s)<=8):∀r∈KR s,∀d∈decls (r.body.getD []),afo d.val:=by
 intro r hr d hdd;have hg:=(Di hs).1;have h:=mP hg r hr;cases hb:r.body with
 |none=>rw[hb]at hdd;rw[show(Option.none.getD []:List Nd)=[] from rfl,Yd]at hdd;cases hdd
 |some b=>rw[hb]at hdd;have amg:d∈decls b:=hdd;have h1:=abE hs hr hb amg;have h2:=h.2.2.1 b hb;have h3:=KC b d amg;exact⟨h1.1,oo,by have:=NY h3;omega,qw h2.1 fun m hm=>h3.subset hm⟩
theorem abL{s:BY}(hs:s.size<=600):∀r∈KR s,okG r:=by
 intro r hr;have hg:=(Di hs).1;have h:=mP hg r hr;have hw:=UH hs;refine⟨fun e=>?_,fun ss hss=>?_⟩
 .have hn:r.at_=none:=by
   cases ha:r.at_ with
   |none=>rfl
   |some w=>rw[ha]at e;have e2:w=aA:=e;have:=qN true _ (bH s) hg r hr w ha;rw[e2]at this;exact absurd this (by decide)
  exact Option.isSome_iff_exists.1 (h.2.1 hn)
 .have h1:=OM _ _ _ hss;have h2:=h.2.2.2;unfold rwz at h2;omega
def nmR(r:Rule):List BY:=(decls (r.body.getD [])).flatMap (fun d=>lW d.val)
def nmS(s:BY):List BY:=(KR s).flatMap nmR
def nmU(sh:List BY):List BY:=sh.flatMap nmS
theorem aft:∀(ds:List Dec),(ds.flatMap (fun d=>lW d.val)).length<=Qk ds
 |[]=>by simp
 |d::r=>by have h1:=aft r;have h2:=DT d.val;rw[List.flatMap_cons,List.length_append];simp only[Qk,dz];omega
theorem ZJ:∀(rs:List Rule),(rs.flatMap nmR).length<=Dp rs
 |[]=>by simp
 |r::q=>by have h1:=ZJ q;have h2:=aft (decls (r.body.getD []));have h3:=(Dl (r.body.getD [])).1;rw[List.flatMap_cons,List.length_append];simp only[Dp,rwz];have h4:(nmR r).length=((decls (r.body.getD [])).flatMap (fun d=>lW d.val)).length:=rfl;omega
theorem ahY{s:BY}(hs:s.size<=600):(nmS s).length<=12000:=by have h1:=ZJ (KR s);have h2:=(pO true (bH s)).1;have h3:=UH hs;unfold nmS;unfold KR at *;omega
theorem ZK:∀(sh:List BY),(∀s∈sh,s.size<=600)->(nmU sh).length<=12000*sh.length
 |[],_=>by simp[nmU]
 |s::r,h=>by have h1:=ahY (h s Ab);have h2:=ZK r fun x hx=>h x (by simp[hx]);unfold nmU at *;rw[List.flatMap_cons,List.length_append,List.length_cons];omega
theorem aky{sh:List BY}:∀s∈sh,∀r∈KR s,∀d∈decls (r.body.getD []),∀z∈lW d.val,z∈nmU sh:=by intro s hs r hr d hd z hz;exact List.mem_flatMap.2 ⟨s,hs,List.mem_flatMap.2 ⟨r,hr,List.mem_flatMap.2 ⟨d,hd,hz⟩⟩⟩
theorem amh{F:lI}{p:aI}{sh:List BY}:∀e q,∀z∈yO (kJ (yT F p sh)) e q,z∈nmU sh:=by
 intro e q z hz;have h:=ZI (Q:=fun v=>∀z∈lW v,z∈nmU sh) (F:=F) (p:=p) (sh:=sh) aky;cases hf:yT F p sh e q with
 |none=>rw[DW hf]at hz;cases hz
 |some x=>rw[yR hf]at hz;exact h e q x hf z hz
theorem UY(F:Nat->BY->Option jS):∃lp:Nat->BY->Bool,∀e s,lp e s=true↔Sp.Way (yO (kJ F) e) s s:=by refine⟨fun e s=>@decide (Sp.Way (yO (kJ F) e) s s) (Classical.propDecidable _),fun e s=>?_⟩;exact @decide_eq_true_iff _ (Classical.propDecidable _)
end
def cmR(F:lI)(lp:Nat->BY->Bool)(p:aI)(sh:List BY)(e:Nat)(q:BY)(ex:Ending):Prop:=if nY sh=true then ex=.returned (.tuple #[.string ⟨#[]⟩,.int .i64 2]) else ∃t,ex=.returned (.tuple #[.string t,.int .i64 0])/\Cv p (kJ (yT F p sh)) lp e q t
theorem KJ(F:lI)(lp:Nat->BY->Bool)(B:Nat)(p:aI)(pv:Av)(sh:List BY)(sv:Av)(e:Nat)(pr:BY)(w:WD)(hp:SG wO 5 (fun b=>b<B) w pv p)(hs:SG eX 1 (fun b=>b<B) w sv sh)(hB:B<=w.heap.size)(hl:Lit w)(hpg:iL p=true)(he:e<p.length)(hn:sh.length<=4)(hpr:pr.size<=100)
  (hsh:∀s∈sh,s.size<=600) (hfit:pJ F w) (hlp:∀e s,lp e s=true↔Sp.Way (yO (kJ (yT F p sh)) e) s s) (hR:∀f,vK f):
  Calls prog 15 #[pv,sv,.int .i64 (e:Int),.string pr] w fun ex w'=>cmR F lp p sh e (jM pr) ex/\Below w.heap.size w w':=by
 have HP:=hid hp;have HS:=hid hs;have HL:=hid hl;have HPG:=hid hpg;have HSH:=hid hsh;have HFT:=hid hfit;have HLP:=hid hlp;have HRD:=hid hR;have h1:(e:Int)<(p.length:Int):=oo;have anJ:(pr.size:Int)<=100:=oo;have HOF:=amZ B p pv w hp hB;obtain⟨a,cap,rfl⟩:=hp.form;obtain⟨sa,sc,rfl⟩:=hs.form;have hpz:(jM pr).size<=4000000:=by rw[FC];omega
 clear hp hs hl hpg hsh hfit hlp hR;go_in;go_wp2_with fail;refine HOF.mono ?_;rintro ex w1 ⟨⟨pv',rfl,hpv⟩,hb1⟩;obtain rfl:=hpv HPG.o;rw[HPG.o];have X2:Hid (Below w.heap.size w (w1.alloc (.cells #[.slice a p.length cap] 66))):=hb1.alloc hb1.size _;have V2:Hid (bU (w1.alloc (.cells #[.slice a p.length cap] 66)) w1.heap.size (.slice a p.length cap) 66):=bU.new _ _ _;clear hb1 hpv HOF;go_upto_region 2 with fail
 generalize w1.alloc (.cells #[.slice a p.length cap] 66)=w2 at *;obtain⟨pb,Hpb⟩:=Nm w1.heap.size;rw[Hpb.o]at V2;rw[Hpb.o];have c2:=V2.o.c;have hs2:=X2.o.size;go_wp2_with fail;refine(ajM p.length a cap (e:Int) w2).mono ?_;rw[show(decide ((0:Int)<=(e:Int))&&decide ((e:Int)<(p.length:Int)))=true by simp;omega];rintro ex w3 ⟨rfl,hb3⟩;have X3:=hid (X2.o.trans (hb3.mono hs2));have V3:Hid (bU w3 pb (.slice a p.length cap) 66):=V2.o.below hb3 V2.o.lt;clear hb3 c2 V2;have c3:=V3.o.c;have hs3:=X3.o.size;have S3:=hid (HS.o.below eX.fair X3.o hB);go_wp2_with fail;refine(aa9 _ sh _ w3 S3.o hn HSH.o).mono ?_;rintro ex wq ⟨rfl,hwq⟩;rw[hwq];clear hwq;go_wp2_with fail;refine(PG B sh _ w3 S3.o oo (HL.o.below X3.o) HSH.o).mono ?_
 rintro ex w4 ⟨hrs,hb4⟩;unfold rsR at hrs;by_cases hdp:nY sh=true
 .rw[if_pos hdp]at hrs;subst hrs;have X4:=hid (X3.o.trans (hb4.mono hs3));have HCM:Hid (cmR F lp p sh e (jM pr) (.returned (.tuple #[.string ⟨#[]⟩,.int .i64 2]))):=by
   show cmR _ _ _ _ _ _ _;unfold cmR;rw[if_pos hdp]
  clear hb4 hdp;go_wp2_with fail;go_ret2
  exact⟨HCM.o,X4.o⟩
 have hdf:nY sh=false:=by simpa using hdp
 rw[if_neg hdp]at hrs;have HDN:=hid (abt hdf);have HDF:=hid hdf;clear hdp hdf;obtain⟨rss,akz⟩:=Nm (sh.map KR);have HWF:Hid (yT F p sh=fun i=>wZ F p i (fun _=>none) rss):=by show _=_;rw[<-akz.o];rfl
 have HOR:Hid (∀s∈rss,∀r∈s,okG r):=by show ∀s∈rss,_;rw[<-akz.o];intro rs hm r hr;obtain⟨s,hs,rfl⟩:=List.mem_map.1 hm;exact abL (HSH.o s hs) r hr
 rw[akz.o]at hrs;obtain⟨u4,rfl,akA⟩:=hrs;have X4:=hid (X3.o.trans (hb4.mono hs3));have V4:Hid (bU w4 pb (.slice a p.length cap) 66):=V3.o.below hb4 V3.o.lt;have G4:Hid (SG (One dB 4) 1 (fun b=>b<w4.heap.size) w4 u4 rss):=akA.keep (One.fair dB.fair) (fun _ hg=>hg.2) fun _ _=>rfl;have hs4:=X4.o.size;obtain⟨ua,uc,rfl⟩:=akA.form;clear hb4 c3 V3 akA;have c4:=V4.o.c;have P4:Hid (jZ w4.heap.size w4 p a cap):=⟨(HP.o.below wO.fair X4.o hB).mono wO.fair oo,Nat.le_refl _,HPG.o⟩;go_wp2_with fail;refine(akm F p a cap _ rss w4 P4.o G4.o HOR.o HRD.o (HFT.o.below X4.o)).mono ?_;rintro ex w5 ⟨⟨wa,wc,kb,bs,rfl,hcm,hall,hmp,hkl,hkn⟩,hb5⟩;have X5:=hid (X4.o.trans (hb5.mono hs4));have hs5:=X5.o.size
 have C5:Hid (lV w4.heap.size w5 p a cap wa wc bs kb (yT F p sh) lp):=⟨hcm,by rw[HWF.o];exact hall,⟨_,hmp,fun _ _ _ h=>by cases h⟩,hkn,hkl⟩;have anK:=hb5.size;clear hcm hall hmp hkl hkn hb5 c4;go_wp2_with fail;refine(II pr w5 oo).mono ?_;rintro ex w6 ⟨rfl,hb6⟩;have X6:=hid (X5.o.trans (hb6.mono hs5));have C6:=hid (C5.o.below hb6);have hs6:=X6.o.size;have hkb:w4.heap.size<=kb:=C6.o.lo;clear hb6;have hul:(nmU sh).length<=50000:=by have:=ZK sh HSH.o;omega
 have HCO:=hid (abK w4.heap.size p a cap wa wc bs kb (yT F p sh) lp (ZI fun s hs=>afs (HSH.o s hs) (HDN.o s hs)) (fun _=>nmU sh) (fun _=>hul) amh HLP.o (fun i hi=>C6.o.cas.pg.par.lt i hi) (e+1) (e:Int) oo h1 (jM pr) hpz w6 C6.o);go_wp2_with fail;refine HCO.o.mono ?_;rintro ex w7 ⟨⟨t,rfl,hcv⟩,hk7,ht7⟩;have HCM:Hid (cmR F lp p sh e (jM pr) (.returned (.tuple #[.string t,.int .i64 0]))):=by show cmR _ _ _ _ _ _ _;unfold cmR;rw[if_neg (by rw[HDF.o];simp)];exact⟨t,rfl,ZE hcv⟩
 clear hcv;have X7:=hid (X6.o.trans (ht7.below oo oo));clear hk7 ht7;go_wp2_with fail;go_ret2
 exact⟨HCM.o,X7.o⟩
def Gq(t:Nat->Int)(w:WD):Prop:=∀k,k<256->w.cell? ⟨1,k,none⟩=some (.int .u8 (t k))/\0<=t k/\t k<256
theorem Gq.lt{t:Nat->Int}{w:WD}(h:Gq t w):1<w.heap.size:=World.block_lt_of_cell? w _ (h 0 oo).1
theorem Gq.below{t:Nat->Int}{w w':WD}(h:Gq t w)(hb:Below w.heap.size w w'):Gq t w':=fun k hk=>⟨(World.cell?_of_block (w:=w) (hb.block 1 h.lt)).trans (h k hk).1,(h k hk).2⟩
def GU(t:Nat->Int)(s:BY)(i:Nat):Int:=t (pk s i).toNat
def UZ(a c:Int):Int:=bits .and .i64 a (bits .xor .i64 (-1) c)
theorem afu(a:Nat)(ha:a<256):(BitVec.ofInt 64 (a:Int)).toNat=a:=by rw[BitVec.ofInt_natCast,BitVec.toNat_ofNat];exact Nat.mod_eq_of_lt oo
theorem afv(a:Nat)(c:Int)(ha:a<256):bits .and .i64 (a:Int) c=((a &&& (BitVec.ofInt 64 c).toNat:Nat):Int):=by
 have hx:a &&& (BitVec.ofInt 64 c).toNat<=a:=Nat.and_le_left;show IntKind.i64.wrap ((BitVec.ofInt 64 (a:Int) &&& BitVec.ofInt 64 c).toNat:Int)=_;rw[BitVec.toNat_and,afu a ha];have:∀n:Nat,n<256->IntKind.i64.wrap (n:Int)=(n:Int):=by intro n hn;rw[IntKind.wrap_i64];omega
 exact this _ oo
theorem P6(a c:Int)(h0:0<=a)(h1:a<256):0<=UZ a c/\UZ a c<=a:=by obtain⟨A,rfl⟩:=Int.eq_ofNat_of_zero_le h0;unfold UZ;have h:=afv A (bits .xor .i64 (-1) c) oo;rw[show bits .and .i64 ((A:Nat):Int) (bits .xor .i64 (-1) c)=_ from h];have:A &&& (BitVec.ofInt 64 (bits .xor .i64 (-1) c)).toNat<=A:=Nat.and_le_left;exact⟨Int.natCast_nonneg _,by exact_mod_cast this⟩
theorem afw(a:Int)(h0:0<=a)(h1:a<256):UZ a 0=a:=by
 obtain⟨A,rfl⟩:=Int.eq_ofNat_of_zero_le h0;unfold UZ;have e:bits .xor .i64 (-1) 0 = -1:=by decide
 rw[e];have h:=afv A (-1) oo;rw[show bits .and .i64 ((A:Nat):Int) (-1)=_ from h];have e2:(BitVec.ofInt 64 (-1)).toNat=2 ^ 64-1:=by decide
 rw[e2,Nat.and_two_pow_sub_one_eq_mod,Nat.mod_eq_of_lt oo]
def Ye(t:Nat->Int)(s:BY):Nat->Nat->Int->Int
 |0,_,_=>0
 |n+1,i,a=>UZ a (GU t s i)+Ye t s n (i+1) (GU t s i)
def Oa(t:Nat->Int)(s:BY):Nat->Nat->Nat->List BY
 |0,fs,_=>if fs<s.size then [s.extract fs s.size] else []
 |n+1,fs,i=>if GU t s i=0 then Oa t s n fs (i+1) else if fs=i then Oa t s n (i+1) (i+1) else s.extract fs i::Oa t s n (i+1) (i+1)
def U0(t:Nat->Int):Prop:=∀k,k<256->0<=t k/\t k<256
theorem afx{t:Nat->Int}(h:U0 t)(s:BY)(i:Nat):0<=GU t s i/\GU t s i<256:=by
 apply h
 unfold pk;split
 .have:=s[i].toNat_lt;omega
 .omega
theorem U6{t:Nat->Int}(ht:U0 t)(s:BY):∀(n i:Nat),i+n=s.size ->
  (∀a:Int,0<a->a<256->((Oa t s n i i).length:Int)<=Ye t s n i a)/\(∀fs,fs<i->((Oa t s n fs i).length:Int)<=1+Ye t s n i 0)
 |0,i,h=>by
  refine⟨fun a _ _=>?_,fun fs hf=>?_⟩
  .unfold Oa Ye;rw[if_neg oo];simp
  .unfold Oa Ye;rw[if_pos oo];simp
 |n+1,i,h=>by
  obtain⟨i1,i2⟩:=U6 ht s n (i+1) oo;obtain⟨b0,b1⟩:=afx ht s i;refine⟨fun a ha ha2=>?_,fun fs hf=>?_⟩
  .unfold Oa Ye;by_cases hz:GU t s i=0
   .rw[if_pos hz,hz,afw a oo ha2];have:=i2 i oo;omega
   .rw[if_neg hz,if_pos rfl];have:=i1 (GU t s i) oo b1;have:=P6 a (GU t s i) oo ha2;omega
  .unfold Oa Ye;have hb:=P6 0 (GU t s i) oo oo;by_cases hz:GU t s i=0
   .rw[if_pos hz];have:=i2 fs oo;rw[hz]at hb⊢;omega
   .rw[if_neg hz,if_neg oo,List.length_cons];have:=i1 (GU t s i) oo b1;omega
theorem ZL{t:Nat->Int}(ht:U0 t)(s:BY):∀(n i:Nat) (a:Int),0<=a->a<256->0<=Ye t s n i a/\Ye t s n i a<=255*n
 |0,_,_,_,_=>by unfold Ye;omega
 |n+1,i,a,h0,h1=>by have hb:=P6 a (GU t s i) h0 h1;obtain⟨b0,b1⟩:=afx ht s i;have:=ZL ht s n (i+1) (GU t s i) b0 b1;unfold Ye;omega
def Gs(t:Nat->Int)(s:BY):List BY:=Oa t s s.size 0 0
def qm(t:Nat->Int)(s:BY):Nat:=(Ye t s s.size 0 1).toNat
def P7(t:Nat->Int)(s:BY):List BY:=Gs t s++List.replicate (qm t s-(Gs t s).length) ByteArray.empty
theorem afy{t:Nat->Int}(ht:U0 t)(s:BY):(Gs t s).length<=qm t s:=by have h:=(U6 ht s s.size 0 oo).1 1 oo oo;unfold Gs qm;omega
theorem afz(t:Nat->Int)(s:BY)(w:WD)(hs:s.size<=24)(hv:∀i,i<s.size->pk s i<128)(ht:Gq t w):
  Calls prog 347 #[.string s] w fun ex w'=>ex=.returned (.slice (some ⟨w.heap.size,0,none⟩) (qm t s) (qm t s))/\w'=w.alloc (.cells (Lib.cellsOf (Gs t s) (qm t s)) 9):=by
 have HT:=hid ht;have HT1:Hid (∀o:Obj,Gq t (w.alloc o)):=fun o=>ht.below (Ax.alloc nl _);have HB:Hid (U0 t):=fun k hk=>(ht k hk).2;have HV:=hid hv;obtain⟨W,HW⟩:=Nm (Gs t s);obtain⟨N,HN⟩:=Nm (qm t s);have hWN:W.length<=N:=by rw[<-HW.o,<-HN.o];exact afy HB.o s
 have hN:N<=6120:=by rw[<-HN.o];have:=ZL HB.o s s.size 0 1 oo oo;unfold qm;omega
 rw[HW.o,HN.o];clear ht hv;go_in;go_wp2_with fail;go_loopg[3,4,5,6] s.size (fun gg v3 v4 v5 v6 wr=>∃(n ws sb:Int) (i:Nat),v3=.int .i64 n/\v4=.int .i64 ws/\v5=.int .u8 sb/\v6=.int .i64 (i:Int)/\i+gg=s.size/\0<=n/\n<=i*255/\0<=ws/\ws<256/\0<=sb/\sb<128/\n+Ye t s gg i ws=(N:Int)/\w=wr);case atStart=>refine⟨0,1,0,0,rfl,rfl,rfl,rfl,oo,oo,oo,oo,oo,oo,oo,?_,rfl⟩;have:=ZL HB.o s s.size 0 1 oo oo;rw[<-HN.o];unfold qm;omega
 case round=>
  obtain⟨n,ws,sb,i,rfl,rfl,rfl,rfl,hi,hn0,hn1,hw0,hw1,hb0,hb1,hc,rfl⟩:=hrel;by_cases hlt:i<s.size
  .have h1:(i:Int)<(s.size:Int):=oo;have hix:=gQ s i hlt;have P8:=tK hlt;have U7:=HV.o i hlt;obtain⟨b,Hb⟩:=Nm (pk s i);have HC:=hid hc;have HS:Hid (GU t s i=t b.toNat):=hid (by unfold GU;rw[Hb.o]);rw[Hb.o]at hix P8 U7;obtain⟨c0,ht0,ht1⟩:=HT.o b.toNat oo;clear hc;go_wp2_with fail;go_roundg(s.size-(i+1));case measure=>omega
   case rel=>
    have hb:=P6 ws (t b.toNat) hw0 hw1;have ho:=u8_or sb b hb0 oo P8 oo;have ho2:sb.toNat ||| b.toNat<128:=Nat.or_lt_two_pow (n:=7) oo oo;have hcc:=HC.o;have e:gk=(s.size-(i+1))+1:=oo;rw[e]at hcc;unfold Ye at hcc;rw[HS.o]at hcc;refine⟨n+UZ ws (t b.toNat),t b.toNat,bits .or .u8 sb b,i+1,?_,rfl,rfl,by simp,oo,oo,oo,ht0,ht1,by rw[ho];omega,by rw[ho];omega,oo,rfl⟩;show Value.int .i64 (wrap64 (n+UZ ws (t b.toNat)))=_;unfold wrap64;congr 1
    omega
  .obtain rfl:i=s.size:=oo;have h1:¬((s.size:Int)<(s.size:Int)):=oo;have hsbz:¬((128:Int)<=sb):=oo;obtain rfl:n=(N:Int):=by
    have e:gk=0:=oo;rw[e]at hc;unfold Ye at hc;omega
   clear hc;have hmk:=run_make_row' (P:=prog) 26 9 (.string ByteArray.empty) 16 Ao Ao rfl .i64 .i64 N oo oo;go_upto_block 2 with fail;clear hmk;rw[<-Lib.cellsOf_nil];go_cut [12] (fun s12 wx=>(w.alloc (.cells (Lib.cellsOf [] N) 9))=wx/\∃i:Nat,i<=s.size/\s12=.int .i64 (i:Int)/\Oa t s (s.size-i) i i=W/\(i<s.size->GU t s i=0));case first=>
    go_wp2_with fail;go_loopg[12] s.size (fun g s12 wx=>(w.alloc (.cells (Lib.cellsOf [] N) 9))=wx/\∃i:Nat,i+g=s.size/\s12=.int .i64 (i:Int)/\Oa t s (s.size-i) i i=W);case atStart=>exact⟨rfl,0,oo,rfl,HW.o⟩
    case round=>
     obtain⟨rfl,i,hi,rfl,hf⟩:=hrel;have HF:=hid hf;clear hf;by_cases hin:i<s.size
     .have hiz:(i:Int)<(s.size:Int):=oo;have hix:=gQ s i hin;have P8:=tK hin;have U7:=HV.o i hin;obtain⟨b,Hb⟩:=Nm (pk s i);have HS:Hid (GU t s i=t b.toNat):=hid (by unfold GU;rw[Hb.o]);rw[Hb.o]at hix P8 U7;obtain⟨c0,ht0,ht1⟩:=HT1.o (.cells (Lib.cellsOf [] N) 9) b.toNat oo;obtain⟨x,Hx⟩:=Nm (t b.toNat);rw[Hx.o]at c0 ht0 ht1;by_cases hsx:x=0
      .subst hsx;go_wp2_with fail;go_meet
       exact⟨rfl,i,oo,rfl,HF.o,fun _=>by rw[HS.o,Hx.o]⟩
      .go_wp2_with fail;go_roundg(s.size-(i+1));case measure=>omega
       case rel=>refine⟨rfl,i+1,oo,by simp,?_⟩;have:=HF.o;rw[show s.size-i=(s.size-(i+1))+1 from by omega]at this;unfold Oa at this;rw[if_neg (by rw[HS.o,Hx.o];exact hsx),if_pos rfl]at this;exact this
     .obtain rfl:i=s.size:=oo;have hiz:¬((s.size:Int)<(s.size:Int)):=oo;go_wp2_with fail;go_meet
      exact⟨rfl,s.size,Nat.le_refl _,rfl,HF.o,fun h=>by omega⟩
   case rest=>
    obtain⟨rfl,i0,hi0,rfl,hf0,hns0⟩:=hcut;have H0:Hid (Oa t s (s.size-i0) i0 i0=W/\(i0<s.size->GU t s i0=0)):=⟨hf0,hns0⟩;clear hf0 hns0;go_wp2_with fail;go_loopg[10,11,12] (s.size-i0) (fun g s10 s11 s12 wx=>∃(done:List BY) (fs i:Nat),s10=.int .i64 (done.length:Int)/\s11=.int .i64 (fs:Int)/\s12=.int .i64 (i:Int)/\fs<=i/\i+g=s.size/\wx=(w.alloc (.cells (Lib.cellsOf done N) 9)) /\
     done++Oa t s (s.size-i) fs i=W/\(fs=i->i<s.size->GU t s i=0))
    case atStart=>exact⟨[],i0,i0,rfl,rfl,rfl,Nat.le_refl _,oo,rfl,H0.o.1,fun _=>H0.o.2⟩
    case round=>
     obtain⟨done,fs,i,rfl,rfl,rfl,hfi,hi,rfl,hinv,hside⟩:=hrel;clear H0;by_cases hin:i<s.size
     .have hiz:(i:Int)<(s.size:Int):=oo;have hix:=gQ s i hin;have P8:=tK hin;have U7:=HV.o i hin;obtain⟨b,Hb⟩:=Nm (pk s i);have HS:Hid (GU t s i=t b.toNat):=hid (by unfold GU;rw[Hb.o]);rw[Hb.o]at hix P8 U7;obtain⟨c0,ht0,ht1⟩:=HT1.o (.cells (Lib.cellsOf done N) 9) b.toNat oo;obtain⟨x,Hx⟩:=Nm (t b.toNat);rw[Hx.o]at c0 ht0 ht1;rw[show s.size-i=(s.size-(i+1))+1 from by omega]at hinv;unfold Oa at hinv;by_cases hsx:x=0
      .subst hsx;rw[if_pos (by rw[HS.o,Hx.o])]at hinv;have HI:=hid hinv;clear hinv hside;go_wp2_with fail;go_roundg(s.size-(i+1));case measure=>omega
       case rel=>exact⟨done,fs,i+1,rfl,rfl,by simp,oo,oo,rfl,HI.o,fun h=>by omega⟩
      .have hlt:fs<i:=by
        refine Nat.lt_of_le_of_ne hfi fun h=>?_;have:=hside h hin;rw[HS.o,Hx.o]at this;exact hsx this
       rw[if_neg (by rw[HS.o,Hx.o];exact hsx),if_neg oo]at hinv;have hdN:done.length<N:=by have:=congrArg List.length hinv;simp at this;omega
       have hnext:(Lib.cellsOf done N)[done.length]?=some (.string ByteArray.empty):=Lib.cellsOf_next hdN;have hdz:((done.length:Nat):Int)<(N:Int):=oo;have c1:(fs:Int)<=(i:Int):=oo;have c2:(i:Int)<=(s.size:Int):=oo;have HI:Hid ((done++[s.extract fs i])++Oa t s (s.size-(i+1)) (i+1) (i+1)=W):=hid (by rw[List.append_assoc];exact hinv);clear hinv hside;go_wp2_with fail;rw[Lib.cellsOf_set hdN];clear hnext c0;go_loopg[12] (s.size-(i+1)) (fun g s12 wx=>(w.alloc (.cells (Lib.cellsOf (done++[s.extract fs i]) N) 9))=wx/\∃j:Nat,i+1<=j/\j+g=s.size/\s12=.int .i64 (j:Int)/\(done++[s.extract fs i])++Oa t s (s.size-j) j j=W);case atStart=>exact⟨rfl,i+1,Nat.le_refl _,oo,by simp,HI.o⟩
       case round=>
        obtain⟨rfl,j,hij,hj,rfl,hfj⟩:=hrel;have HJ:=hid hfj;clear hfj hix P8 U7 HS Hx hsx ht0 ht1 HI Hb;by_cases hjn:j<s.size
        .have hjz:(j:Int)<(s.size:Int):=oo;have hix:=gQ s j hjn;have P8:=tK hjn;have U7:=HV.o j hjn;obtain⟨b,Hb⟩:=Nm (pk s j);have HS:Hid (GU t s j=t b.toNat):=hid (by unfold GU;rw[Hb.o]);rw[Hb.o]at hix P8 U7;obtain⟨c0,ht0,ht1⟩:=HT1.o (.cells (Lib.cellsOf (done++[s.extract fs i]) N) 9) b.toNat oo;obtain⟨x,Hx⟩:=Nm (t b.toNat);rw[Hx.o]at c0 ht0 ht1;by_cases hsx:x=0
         .subst hsx;go_wp2_with fail;go_roundg(s.size-j);case measure=>omega
          case rel=>exact⟨done++[s.extract fs i],j,j,by simp,rfl,rfl,Nat.le_refl _,oo,rfl,HJ.o,fun _ _=>by rw[HS.o,Hx.o]⟩
         .go_wp2_with fail;go_roundg(s.size-(j+1));case measure=>omega
          case rel=>refine⟨rfl,j+1,oo,oo,by simp,?_⟩;have:=HJ.o;rw[show s.size-j=(s.size-(j+1))+1 from by omega]at this;unfold Oa at this;rw[if_neg (by rw[HS.o,Hx.o];exact hsx),if_pos rfl]at this;exact this
        .obtain rfl:j=s.size:=oo;have hjz:¬((s.size:Int)<(s.size:Int)):=oo;go_wp2_with fail;go_roundg(s.size-s.size);case measure=>omega
         case rel=>exact⟨done++[s.extract fs i],s.size,s.size,by simp,rfl,rfl,Nat.le_refl _,oo,rfl,HJ.o,fun _ h=>by omega⟩
     .obtain rfl:i=s.size:=oo;have hiz:¬((s.size:Int)<(s.size:Int)):=oo;rw[Nat.sub_self]at hinv;unfold Oa at hinv;clear hside;by_cases hfl:fs<s.size
      .have hflz:(fs:Int)<(s.size:Int):=oo;rw[if_pos hfl]at hinv;have hdN:done.length<N:=by
        have:=congrArg List.length hinv;simp at this;omega
       have hnext:(Lib.cellsOf done N)[done.length]?=some (.string ByteArray.empty):=Lib.cellsOf_next hdN;have hdz:((done.length:Nat):Int)<(N:Int):=oo;have HI:=hid hinv;clear hinv;go_wp2_with fail;go_ret;refine⟨rfl,?_⟩;rw[Lib.cellsOf_set hdN,HI.o]
      .obtain rfl:fs=s.size:=oo;have hflz:¬((s.size:Int)<(s.size:Int)):=oo;rw[if_neg hfl,List.append_nil]at hinv;have HI:=hid hinv;clear hinv;go_wp2_with fail;go_ret;refine⟨rfl,?_⟩;rw[HI.o]
