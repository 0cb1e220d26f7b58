import Derived.Test.YtlliliddljkbfaaGreatC6
set_option maxHeartbeats 64000000
set_option maxRecDepth 100000
namespace Go.Proofs.YtlliliddljkbfaaGreat
open Go.Proofs.Tryz (prog)
open Go.RowKit Sp
section
attribute [local go_sem] bI bJ aX aY
theorem aaC{nm:BY}(h:nm≠aA)(lv:Av)(p:Nat):fE 116 nm aA aA lv p=.iface 309 (.agg #[.string nm]):=by unfold fE;rw[if_pos rfl,if_neg h]
theorem Wq(lv:Av)(p:Nat):fE 116 aA aA aA lv p=.iface 311 (.agg #[]):=by unfold fE;rw[if_pos rfl,if_pos rfl]
theorem ac2{s:BY}(h:0<s.size):small s≠aA:=by
 intro e;have:=congrArg ByteArray.size e;have e2:(small s).size=s.size:=by show(s.data.toList.map jr).toArray.size=s.data.size;rw[List.size_toArray,List.length_map,Array.length_toList]
 rw[e2]at this;have:s.size=0:=this;omega
theorem Ws{rec:List Nd->Option bY}{l:List Nd}(nk:¬(hdN l).t.kind=14)(h:au (hdN l).t (b1 42)=false):aZ rec l=bZ rec [] l:=by
 unfold aZ kP;cases l with
 |nil=>rfl
 |cons n r=>have nk':¬n.t.kind=14:=nk;have h':au n.t (b1 42)=false:=h;simp only[dN,h',Bool.false_eq_true,if_false,if_neg nk']
theorem Wu{rec:List Nd->Option bY}{l:List Nd}(nk:¬(hdN l).t.kind=14)(h:au (hdN l).t (b1 42)=true):aZ rec l=bZ rec [Simple.of 116 aA] l.tail/\1+l.tail.length<=l.length:=by
 unfold aZ kP;cases l with
 |nil=>rw[xK]at h;cases h
 |cons n r=>have nk':¬n.t.kind=14:=nk;have h':au n.t (b1 42)=true:=h;simp only[dN,h',if_true,if_neg nk',List.tail_cons,List.length_cons,true_and];omega
theorem Np{rec:List Nd->Option bY}{l:List Nd}(hk:(hdN l).t.kind=14):aZ rec l=bZ rec [Simple.of 116 (small (hdN l).t.word)] l.tail/\1+l.tail.length<=l.length/\∃n r,l=n::r:=by
 unfold aZ kP;cases l with
 |nil=>exact absurd hk (by decide)
 |cons n r=>have hk':n.t.kind=14:=hk;simp only[if_pos hk',List.tail_cons,List.length_cons];exact⟨rfl,oo,_,_,rfl⟩
def NmL(l:List Nd):Prop:=∀n∈l,n.t.kind=14->0<n.t.word.size
theorem nO(w:WD)(x:Av)(t:TypeId):∀j u,[x][j]?=some u->(w.alloc (.cells #[x] t)).cell? ((⟨w.heap.size,0,none⟩:Addr).add j)=some u:=by intro j u hu;rw[Addr.add_lit,Nat.zero_add,World.cell?_alloc_mark,<-hu];simp
theorem Wv(f:Nat)(hR:Lh f)(B b:Nat)(sv:Av)(l:List Nd)(w:WD)(h:fV B w b sv l)(hd:uo f l)(hnm:NmL l):
  Calls prog 196 #[.pointer (some ⟨b,0,none⟩)] w fun e w'=>cpP f (aZ (dX f) l) B b w w' e/\Turn b w w':=by
 have R1:=hid h;have HR:=hid hR;have HD:Hid (uo f l):=hd;have HNM:=hid hnm;have hbw:b<w.heap.size:=h.lt;have FU:=h.len;clear h hR hd hnm;obtain⟨iT,hiT⟩:=aaj;have HI:=hid hiT;clear hiT;go_in;go_wp2_with fail;refine(Hg B b _ l _ R1.o).mono ?_;rintro e w1 ⟨kv1,rfl,_,hb1⟩;have R2:=hid (R1.o.below hb1);have T2:Hid (Turn b w w1):=Turn.of_below hb1;clear hb1 R1;unfold fB;go_upto_if 11 with fail;go_cut [4] (fun s4 wx=>∃(u:Av) (acc:List Simple) (cur:List Nd),u=s4/\acc.length+cur.length<=600/\Aside (CpI f B b w l u acc cur wx));case first=>
  cases hk:((hdN l).t.kind==14)
  .have nk:¬(hdN l).t.kind=14:=by simpa using hk
   go_wp2_with fail;refine(oP B b _ l (b1 42) _ R2.o).mono ?_;rintro e w3 ⟨Em,rfl,D7,Ox⟩;have T3:=hid (T2.o.trans Ox);have hs3:=T3.o.size;clear Ox;obtain⟨s1,Az⟩:=Nm (au (hdN l).t (b1 42));rw[Az.o];cases s1
   .have ac3:fV B w3 b Em l:=by rw[y5 Az.o]at D7;exact D7
    have HC:Hid (CpI f B b w l (.slice none 0 0) [] l w3):=⟨MG.nil _ _ _ _ _,⟨Em,ac3⟩,T3.o,Ws nk Az.o,HD.o,by simp⟩;clear D7 ac3 nk;go_wp2_with fail;go_meet
    exact⟨_,[],l,rfl,by simpa using FU,HC.o⟩
   .have ac3:fV B w3 b Em l.tail:=by rw[qZ Az.o]at D7;exact D7
    have R3:=hid ac3;have HE:Hid (aZ (dX f) l=bZ (dX f) [Simple.of 116 aA] l.tail/\1+l.tail.length<=l.length):=Wu nk Az.o;clear D7 ac3 nk;have M0:=MG.nil (aQ f) 1 222 w.heap.size w3;go_wp2_with(at_builtin;go_must(refine wpList_append_own_at _ rfl _ _ 217 rfl w.heap.size 222 iT .nilIface 1 16 Tryz.underlying217 HI.o.1 HI.o.2.1 HI.o.2.2.1 HI.o.2.2.2 rfl oo (.slice none 0 0) 0 [] rfl (World.ownsRow_nil _ _ _ _) ⟨w3.heap.size,0,none⟩ 1 1 [.iface 311 (.agg #[])] rfl rfl (nO _ _ _) (by simp[Value.oneCell']) Ao oo Al ?_));intro v4 w4 hown4 dS _ oh;have hb4:Below w.heap.size w3 w4:=(As.alloc hs3 _).grown dS Al (fun rr hr=>by simp[Value.ownBlock]at hr)
    have HC:Hid (CpI f B b w l v4 [Simple.of 116 aA] l.tail w4):=⟨MG.snoc (aQ.fair f) (l:=[]) (cs:=[]) rfl (by have:=aQ.plain f (DZ w.heap.size (w3.alloc (.cells #[.iface 311 (.agg #[])] 222)) (.slice none 0 0)) (w3.alloc (.cells #[.iface 311 (.agg #[])] 222)) 116 aA aA aA 0;rw[Wq]at this;exact this) hown4 dS (by simpa using oh),⟨Em,by have hr:=R3.o.alloc (.cells #[.iface 311 (.agg #[])] 222);exact⟨by rw[dS.block b (by simp;omega) (by simp[Value.ownBlock])];exact hr.blk,hr.sl.keep (fun _ hg=>hg) (fun g hg=>by have hg':g<B:=hg;have:=hr.lo;exact dS.block g Al (by simp[Value.ownBlock])),hr.lo⟩⟩,T3.o.trans' hb4,HE.o.1,HD.o.tail,by simpa using HE.o.2⟩
    have hle:1+l.tail.length<=600:=by have:=HE.o.2;omega
    clear hown4 dS oh hb4 M0;go_wp2_with fail;go_meet
    exact⟨_,_,_,rfl,by simpa using hle,HC.o⟩
  .have nk:(hdN l).t.kind=14:=by simpa using hk
   obtain⟨tg,Htg⟩:=Nm (small (hdN l).t.word);have HE:Hid (aZ (dX f) l=bZ (dX f) [Simple.of 116 tg] l.tail/\1+l.tail.length<=l.length):=by have:=Np (rec:=dX f) nk;rw[Htg.o]at this;exact⟨this.1,this.2.1⟩
   have HT:Hid (tg≠aA):=by rw[<-Htg.o];obtain⟨n,r,e⟩:=(Np (rec:=dX f) nk).2.2;refine ac2 ?_;rw[e]at nk⊢;exact HNM.o n (by rw[e];simp) nk
   have hwd:=HD.o.hd.2;clear nk;obtain⟨n,Hn⟩:=Nm (hdN l);rw[Hn.o]at Htg hwd hk;go_wp2_with fail;refine(sN B b _ l _ R2.o).mono ?_;rw[Hn.o];rintro e w3 ⟨kv3,Em,rfl,_,D7,Ox⟩;have R3:=hid D7;have T3:=hid (T2.o.trans Ox);clear D7 Ox;unfold fB;go_wp2_with fail;refine(nH n.t.word _ hwd).mono ?_;rw[Htg.o];rintro e w5 ⟨rfl,hb5⟩;have R5:=hid (R3.o.below hb5);have T5:=hid (T3.o.trans (Turn.of_below hb5));have hs5:=T5.o.size;clear hb5 R3 T3
   go_wp2_with(at_builtin;go_must(refine wpList_append_own_at _ rfl _ _ 217 rfl w.heap.size 222 iT .nilIface 1 16 Tryz.underlying217 HI.o.1 HI.o.2.1 HI.o.2.2.1 HI.o.2.2.2 rfl oo (.slice none 0 0) 0 [] rfl (World.ownsRow_nil _ _ _ _) ⟨w5.heap.size,0,none⟩ 1 1 [.iface 309 (.agg #[.string tg])] rfl rfl (nO _ _ _) (by simp[Value.oneCell']) Ao oo Al ?_));intro v4 w4 hown4 dS _ oh;have hb4:Below w.heap.size w5 w4:=(As.alloc hs5 _).grown dS Al (fun rr hr=>by simp[Value.ownBlock]at hr)
   have HC:Hid (CpI f B b w l v4 [Simple.of 116 tg] l.tail w4):=⟨MG.snoc (aQ.fair f) (l:=[]) (cs:=[]) rfl (by have:=aQ.plain f (DZ w.heap.size (w5.alloc (.cells #[.iface 309 (.agg #[.string tg])] 222)) (.slice none 0 0)) (w5.alloc (.cells #[.iface 309 (.agg #[.string tg])] 222)) 116 tg aA aA 0;rw[aaC HT.o]at this;exact this) hown4 dS (by simpa using oh),⟨Em,by have hr:=R5.o.alloc (.cells #[.iface 309 (.agg #[.string tg])] 222);exact⟨by rw[dS.block b (by simp;omega) (by simp[Value.ownBlock])];exact hr.blk,hr.sl.keep (fun _ hg=>hg) (fun g hg=>by have hg':g<B:=hg;have:=hr.lo;exact dS.block g Al (by simp[Value.ownBlock])),hr.lo⟩⟩,T5.o.trans' hb4,HE.o.1,HD.o.tail,by simpa using HE.o.2⟩
   have hle:1+l.tail.length<=600:=by have:=HE.o.2;omega
   clear hown4 dS oh hb4;go_wp2_with fail;go_meet
   exact⟨_,_,_,rfl,by simpa using hle,HC.o⟩
 case rest=>
 obtain⟨u,acc,cur,rfl,hlen,hA⟩:=hcut;have HC0:Hid (CpI f B b w l u acc cur wc):=hA.o;clear hA R2 T2 HNM;go_wp2_with fail;go_loopg[4] cur.length (fun gg v4 wr=>∃(u:Av) (acc:List Simple) (cur:List Nd),u=v4/\gg=cur.length/\acc.length+cur.length<=600/\Aside (CpI f B b w l u acc cur wr));case atStart=>exact⟨u,acc,cur,rfl,rfl,hlen,HC0.o⟩
 case round=>
  obtain⟨u,acc,cur,rfl,rfl,hlen,hA⟩:=hrel;have HC:Hid (CpI f B b w l u acc cur wr):=hA.o;clear hA HC0;obtain⟨ua,uc,rfl⟩:=HC.o.row.form;obtain⟨sv1,hR1⟩:=HC.o.rdr;have R1:=hid hR1;clear hR1;have hsr:=HC.o.turn.size;go_wp2_with fail;refine pmb (Ld B b _ cur _ R1.o) fun w2 hb2=>?_;have R2:=hid (R1.o.below hb2);have T2:=hid (HC.o.turn.trans (Turn.of_below hb2));have M2:=hid (HC.o.row.below (aQ.fair f) hb2);clear hb2 R1;obtain⟨fo,Hfo⟩:=Nm (CB (hdN cur).t);rw[Hfo.o];cases fo
  .have HV:Hid (aZ (dX f) l=some (acc,cur)):=by
    show _=_;rw[HC.o.eq,xP,Hfo.o];rfl
   go_wp2_with fail;go_ret2
   exact⟨by rw[HV.o];exact⟨_,_,rfl,R2.o,M2.o.sl (aQ.fair f) (aQ.sized f) oo⟩,T2.o⟩
  .have hcn:cur≠[]:=by
    rintro rfl;have:=Hfo.o;rw[IB]at this;cases this
   have HS:Hid (aZ (dX f) l=match iD (dX f) cur with|none=>none|some (s,r)=>bZ (dX f) (acc++[s]) r):=by show _=_;rw[HC.o.eq,xP,Hfo.o];rfl
   have HDC:Hid (uo f cur/\acc.length+cur.length<=l.length):=⟨HC.o.dep,HC.o.len⟩;have hs2:=T2.o.size;clear HC;go_wp2_with fail;refine(ai4 f HR.o B b _ cur w2 R2.o HDC.o.1).mono ?_;rintro e w3 ⟨hp,Ox⟩;have T3:=hid (T2.o.trans Ox);have M3:=hid (M2.o.turn (aQ.fair f) Ox hbw);have hs3:=Ox.size;clear Ox;unfold ptP at hp;cases hq:iD (dX f) cur with
   |none=>
    rw[hq]at hp;obtain⟨pv,Em,l3,rfl,D7⟩:=hp;have R3:=hid D7;have HV:Hid (aZ (dX f) l=none):=by show _=_;rw[HS.o,hq]
    clear hq D7;go_wp2_with fail;go_ret2
    exact⟨by rw[HV.o];exact⟨_,_,_,rfl,R3.o⟩,T3.o⟩
   |some sr=>
    obtain⟨s,r⟩:=sr;rw[hq]at hp;obtain⟨pv,Em,rfl,D7,hps⟩:=hp;obtain⟨pT,pu,rfl⟩:=hps.form;have R3:=hid D7;have HV:Hid (aZ (dX f) l=bZ (dX f) (acc++[s]) r):=by show _=_;rw[HS.o,hq]
    have hrl:=(AO hq hcn).1;have HDR:Hid (uo f r):=(AO hq hcn).2 f HDC.o.1;have PA:∀o,Hid (aQ f (DZ w.heap.size (w3.alloc o) (.slice ua acc.length uc)) (w3.alloc o) s [.iface pT pu]):=fun o=>M2.o.apart (aQ.fair f) hps hs2 Aa (fun g hg=>Below.heap_alloc _ _ _ hg);obtain⟨cs,hown,pX⟩:=(M3.o.alloc (aQ.fair f) (.cells #[.iface pT pu] 222));have HO:=hid hown;have Wx:=hid pX;clear hq D7 hps hown pX HS hcn
    go_wp2_with(at_builtin;go_must(refine wpList_append_own_at _ rfl _ _ 217 rfl w.heap.size 222 iT .nilIface 1 16 Tryz.underlying217 HI.o.1 HI.o.2.1 HI.o.2.2.1 HI.o.2.2.2 rfl oo (.slice ua acc.length uc) acc.length cs rfl HO.o ⟨w3.heap.size,0,none⟩ 1 1 [.iface pT pu] rfl rfl (nO _ _ _) (by simp[Value.oneCell']) Ao oo Al ?_));intro v4 w4 hown4 dS _ oh;have hlo:∀rr,Value.ownBlock (.slice ua acc.length uc)=some rr->w.heap.size<=rr:=fun rr hr=>(HO.o.lt rr hr).1;have hb4:Below w.heap.size w3 w4:=(As.alloc oo _).grown dS Al hlo;have FZ:Hid (CpI f B b w l v4 (acc++[s]) r w4):=⟨MG.snoc (aQ.fair f) Wx.o (PA _).o hown4 dS (by simpa using oh),⟨Em,by have hr:=R3.o.alloc (.cells #[.iface pT pu] 222);exact⟨by rw[dS.block b (by simp;omega) (fun e=>by have:=hlo b e.symm;omega)];exact hr.blk,hr.sl.keep (fun _ hg=>hg) (fun g hg=>by have hg':g<B:=hg;have:=hr.lo;exact dS.block g Al (fun e=>by have:=hlo g e.symm;omega)),hr.lo⟩⟩,T3.o.trans' hb4,HV.o,HDR.o,by have:=HDC.o.2;simp;omega⟩
    clear hown4 dS oh hb4 hlo;go_wp2_with fail;go_roundg r.length;case measure=>omega
    case rel=>exact⟨v4,acc++[s],r,rfl,rfl,by simp;omega,FZ.o⟩
end
section
attribute [local go_sem] bI bJ aX aY
theorem aaD:∃i,prog.info? 219=some i/\i.zero=some (.agg #[.int .i64 0,.slice none 0 0])/\i.size=2/\i.bytes=32:=info_parts An
theorem new2(w:WD)(a b:Av)(t:TypeId):∀j u,[a,b][j]?=some u->(w.alloc (.cells #[a,b] t)).cell? ((⟨w.heap.size,0,none⟩:Addr).add j)=some u:=by intro j u hu;rw[Addr.add_lit,Nat.zero_add,World.cell?_alloc_mark,<-hu];simp
theorem uy{l:List Nd}{n:Nd}(h:n∈l.tail):n∈l:=List.mem_of_mem_tail h
theorem WE{rec:List Nd->Option bY}{l:List Nd}{s:Simple}{r:List Nd}(h:iD rec l=some (s,r)):∀n∈r,n∈l:=by
 unfold iD at h;split at h
 .cases h;exact fun n hn=>uy hn
 .split at h
  .split at h
   .cases h;exact fun n hn=>uy (uy hn)
   .cases h
  .split at h
   .cases ha:gG (bare (hdN l).kids)with
    |none=>rw[ha]at h;cases h
    |some s'=>rw[ha]at h;cases h;exact fun n hn=>uy hn
   .cases ha:bM rec (hdN l.tail)with
    |none=>rw[ha]at h;cases h
    |some s'=>rw[ha]at h;cases h;exact fun n hn=>uy (uy hn)
theorem WG(rec:List Nd->Option bY)(k:Nat):∀(acc:List Simple) (l:List Nd) (all:List Simple) (r:List Nd),l.length<=k->bZ rec acc l=some (all,r)->(∀n∈r,n∈l)/\all.length+r.length<=acc.length+l.length:=by
 induction k with
 |zero=>intro acc l all r hl h;obtain rfl:l=[]:=List.eq_nil_of_length_eq_zero oo;rw[Wy]at h;cases h;exact⟨fun _ h=>h,by simp⟩
 |succ k ih=>
  intro acc l all r hl h;rw[xP]at h;split at h
  .rename_i hfo;have hne:l≠[]:=by rintro rfl;rw[IB]at hfo;cases hfo
   cases hq:iD rec l with
   |none=>rw[hq]at h;cases h
   |some sr=>obtain⟨s,r1⟩:=sr;rw[hq]at h;have h1:=(AO hq hne).1;obtain⟨h2,h3⟩:=ih (acc++[s]) r1 all r oo h;exact⟨fun n hn=>WE hq n (h2 n hn),by simp at h3;omega⟩
  .cases h;exact⟨fun _ h=>h,Nat.le_refl _⟩
theorem LU{rec:List Nd->Option bY}{l:List Nd}{all:List Simple}{r:List Nd}(h:aZ rec l=some (all,r)):(∀n∈r,n∈l)/\all.length+r.length<=l.length:=by
 unfold aZ at h;obtain⟨h1,h2⟩:=WG rec _ _ _ _ _ nl h;unfold kP at h1 h2;cases l with
 |nil=>exact⟨h1,by simpa using h2⟩
 |cons n q=>
  simp only at h1 h2;split at h1
  .rename_i hk;rw[if_pos hk]at h2;exact⟨fun x hx=>List.mem_cons_of_mem _ (h1 x hx),by simp at h2⊢;omega⟩
  .rename_i hk;rw[if_neg hk]at h2;split at h1
   .rename_i hs;rw[if_pos hs]at h2;exact⟨fun x hx=>List.mem_cons_of_mem _ (h1 x hx),by simp at h2⊢;omega⟩
   .rename_i hs;rw[if_neg hs]at h2;exact⟨h1,by simpa using h2⟩
theorem aaE{l r:List Nd}{c:Nat}(h:gU l=some (c,r)):(∀n∈r,n∈l)/\r.length<=l.length:=by
 have hd:∀x∈aH l,x∈l:=fun x hx=>uw l x hx;have hdl:=MF l;unfold gU at h;cases hl:aH l with
 |nil=>
  rw[hl]at h;simp only at h;split at h
  .cases h
  .cases h;exact⟨by simp,by simp⟩
 |cons n q=>
  rw[hl]at h hd hdl;have hq:∀x∈aH q,x∈l:=fun x hx=>hd x (List.mem_cons_of_mem _ (uw q x hx));have hql:=MF q;simp only[List.length_cons]at hdl;simp only at h;repeat' split at h
  all_goals first
   |(cases h;exact⟨hq,oo⟩)
   |(cases h;exact⟨hd,by simp;omega⟩)
   |cases h
def cxP(f:Nat)(o:Option (List Step))(w w':WD)(e:Ending):Prop:=
 match o with
 |none=>e=.returned (.tuple #[.slice none 0 0,.bool false])
 |some ss=>∃sv,e=.returned (.tuple #[sv,.bool true])/\SG (fO (aQ f)) 2 (oD w.heap.size w') w' sv ss
structure CxI(f B b:Nat)(w:WD)(d:List Nd)(u:Av)(ss:List Step)(c:Nat)(cur:List Nd)(k:Nat)(wr:WD):Prop where
 row:MG (fO (aQ f)) 2 219 w.heap.size wr u ss
 rdr:∃sv,fV B wr b sv cur
 turn:Turn b w wr
 eq:je (dX f) d=(bD (dX f) k c cur).map (fun x=>ss++x)
 mem:∀n∈cur,n∈d
 fuel:cur.length+1<=k
 len:ss.length+k<=d.length+1
theorem uo.sub{f:Nat}{l d:List Nd}(h:uo f d)(hs:∀n∈l,n∈d):uo f l:=fun n hn=>h n (hs n hn)
theorem NmL.sub{l d:List Nd}(h:NmL d)(hs:∀n∈l,n∈d):NmL l:=fun n hn=>h n (hs n hn)
theorem LV(f:Nat)(hR:Lh f)(B:Nat)(p:List Nd)(v:Av)(w:WD)(h:Sl (fun b=>b<B) w v p)(hB:B<=w.heap.size)(hd:uo f p)(hnm:NmL p):
  Calls prog 126 #[v] w fun e w'=>cxP f (je (dX f) (bare p)) w w' e/\Below w.heap.size w w':=by
 have HS:=hid h;have HR:=hid hR;obtain⟨d,Hd⟩:=Nm (bare p);have HD:Hid (uo f d):=by rw[<-Hd.o];exact hd.sub (fun n hn=>RZ p n hn)
 have HNM:Hid (NmL d):=by rw[<-Hd.o];exact hnm.sub (fun n hn=>RZ p n hn)
 rw[Hd.o];clear h hR hd hnm;obtain⟨a,cap,rfl⟩:=HS.o.form;obtain⟨iT,hiT⟩:=aaD;have HI:=hid hiT;clear hiT;have hFS:Hid (Fair (fO (aQ f))):=fO.fair (aQ.fair f);go_in;go_wp2_with fail;refine(tu B p _ w HS.o).mono ?_;rw[Hd.o];rintro e w0 ⟨v1,rfl,hS1,rfl⟩;obtain⟨va,vc,rfl⟩:=hS1.form;have hd6:=hS1.len;have R1:Hid (fV B (w0.alloc (.cells #[.slice va d.length vc] 270)) w0.heap.size (.slice va d.length vc) d):=fV.new hS1 hB;have B1:Hid (Below w0.heap.size w0 (w0.alloc (.cells #[.slice va d.length vc] 270))):=As.alloc nl _;clear hS1 HS;go_upto_region 3 with fail
 generalize w0.alloc (.cells #[.slice va d.length vc] 270)=w1 at *;obtain⟨b,Hb⟩:=Nm w0.heap.size;have R2:Hid (fV B w1 b (.slice va d.length vc) d):=by rw[<-Hb.o];exact R1
 clear R1;rw[Hb.o];have hbw:b<w1.heap.size:=R2.o.lt;have I0:Hid (CxI f B b w1 d (.slice none 0 0) [] 0 d (d.length+1) w1):=⟨MG.nil _ _ _ _ _,⟨_,R2.o⟩,Turn.refl _ _,by unfold je;cases bD (dX f) (d.length+1) 0 d<;>simp,fun _ h=>h,Nat.le_refl _,by simp⟩;clear R2;go_wp2_with fail;go_loopg[4,6] (d.length+1) (fun gg v4 v6 wr=>∃(u:Av) (ss:List Step) (c:Nat) (cur:List Nd),u=v4/\v6=.int .i64 (sG c)/\ss.length+gg<=601/\Aside (CxI f B b w1 d u ss c cur gg wr));case atStart=>exact⟨_,[],0,d,rfl,rfl,by simp;omega,I0.o⟩
 case round=>
  obtain⟨u,ss,c,cur,rfl,rfl,hlen,hA⟩:=hrel;have HC:Hid (CxI f B b w1 d u ss c cur gk wr):=hA.o;clear hA I0;obtain⟨ua,uc,rfl⟩:=HC.o.row.form;obtain⟨sv1,hR1⟩:=HC.o.rdr;have R1:=hid hR1;clear hR1;have hsr:=HC.o.turn.size;obtain⟨k,rfl⟩:∃k,gk=k+1:=⟨gk-1,by have:=HC.o.fuel;omega⟩;go_wp2_with fail;refine(Wv f HR.o B b _ cur wr R1.o (HD.o.sub HC.o.mem) (HNM.o.sub HC.o.mem)).mono ?_;rintro e w2 ⟨hp,hT2⟩;have T2:=hid (HC.o.turn.trans hT2);have M2:=hid (HC.o.row.turn hFS.o hT2 hbw);have hs2:=hT2.size;clear hT2 R1;have BB:Hid (∀w',Turn b w1 w'->Below w0.heap.size w0 w'):=fun w' ht=>Turn.over B1.o ht (by rw[Hb.o];exact Nat.le_refl _);unfold cpP at hp;cases hq:aZ (dX f) cur with
  |none=>
   rw[hq]at hp;obtain⟨lv,Yv,l2,rfl,hR2⟩:=hp;have HV:Hid (je (dX f) d=none):=by show _=_;rw[HC.o.eq,LM hq];rfl
   clear hq hR2;go_wp2_with fail;go_ret2
   exact⟨by rw[HV.o];rfl,BB.o _ T2.o⟩
  |some ar=>
   obtain⟨all,r⟩:=ar;rw[hq]at hp;obtain⟨lv,Yv,rfl,hR2,hsg⟩:=hp;have R2:=hid hR2;obtain⟨la,lc,rfl⟩:=hsg.form;have HQ:=hid hq;have Rn:=hid hsg;have alp:=LU hq;have HSF:=hid alp;clear hq hR2 hsg alp;by_cases hal:all=[]
   .subst hal;have HV:Hid (je (dX f) d=none):=by show _=_;rw[HC.o.eq,Jj HQ.o];rfl
    go_wp2_with fail;go_ret2
    exact⟨by rw[HV.o];rfl,BB.o _ T2.o⟩
   .have amL:0<all.length:=by cases all with|nil=>exact absurd rfl hal|cons x y=>simp
    have hdec:decide (0<all.length)=true:=by simpa using amL
    have PA:∀o,Hid (fO (aQ f) (DZ w1.heap.size (w2.alloc o) (.slice ua ss.length uc)) (w2.alloc o) (c,all) [.int .i64 (sG c),.slice la all.length lc]):=fun o=>HC.o.row.apart hFS.o (show fO (aQ f) (oD wr.heap.size w2) w2 (c,all) [.int .i64 (sG c),.slice la all.length lc] from⟨_,rfl,Rn.o⟩) hsr Aa (fun g hg=>Below.heap_alloc _ _ _ hg);obtain⟨cs,hown,pX⟩:=(M2.o.alloc hFS.o (.cells #[.int .i64 (sG c),.slice la all.length lc] 219));have HO:=hid hown;have Wx:=hid pX;clear hown pX;have alq:=hid hal
    clear hal;go_wp2_with(at_builtin;go_must(refine wpList_append_own_at _ rfl _ _ 148 rfl w1.heap.size 219 iT (.agg #[.int .i64 0,.slice none 0 0]) 2 32 Tryz.underlying148 HI.o.1 HI.o.2.1 HI.o.2.2.1 HI.o.2.2.2 rfl oo (.slice ua ss.length uc) ss.length cs rfl HO.o ⟨w2.heap.size,0,none⟩ 1 1 [.int .i64 (sG c),.slice la all.length lc] rfl rfl (new2 _ _ _ _) (by simp[Value.oneCell']) Ao oo Al ?_));intro v4 w4 hown4 dS _ oh;have hlo:∀rr,Value.ownBlock (.slice ua ss.length uc)=some rr->w1.heap.size<=rr:=fun rr hr=>(HO.o.lt rr hr).1;have hb4:Below w1.heap.size w2 w4:=(As.alloc oo _).grown dS Al hlo;have M4:Hid (MG (fO (aQ f)) 2 219 w1.heap.size w4 v4 (ss++[(c,all)])):=MG.snoc hFS.o Wx.o (PA _).o hown4 dS (by simpa using oh);have R4:Hid (fV B w4 b Yv r):=by have hr:=R2.o.alloc (.cells #[.int .i64 (sG c),.slice la all.length lc] 219);exact⟨by rw[dS.block b (by simp;omega) (fun e=>by have:=hlo b e.symm;omega)];exact hr.blk,hr.sl.keep (fun _ hg=>hg) (fun g hg=>by have hg':g<B:=hg;have:=hr.lo;exact dS.block g Al (fun e=>by have:=hlo g e.symm;omega)),hr.lo⟩
    have T4:=hid (T2.o.trans' hb4);have hs4:=T4.o.size;obtain⟨fa,fc,rfl⟩:=M4.o.form;have M5:Hid (MG (fO (aQ f)) 2 219 w1.heap.size w4 (.slice fa (ss.length+1) fc) (ss++[(c,all)])):=by have:=M4.o;rw[List.length_append]at this;exact this
    clear M4;clear hown4 dS oh hb4 hlo;go_wp2_with fail;refine(vg B b _ r _ R4.o).mono ?_;rintro e w5 ⟨rfl,rfl⟩;by_cases hr:r=[]
    .subst hr;have HV:Hid (je (dX f) d=some (ss++[(c,all)])):=by show _=_;rw[HC.o.eq,LP HQ.o alq.o];rfl
     have HG:Hid (SG (fO (aQ f)) 2 (oD w0.heap.size w5) w5 (.slice fa (ss.length+1) fc) (ss++[(c,all)])):=(M5.o.sl hFS.o (fO.sized _) Al).keep hFS.o (xO B1.o.size) fun _ _=>rfl;go_wp2_with fail;go_ret2
     exact⟨by rw[HV.o];exact⟨_,rfl,HG.o⟩,BB.o _ T4.o⟩
    .have hrl:(r.length==0)=false:=by cases r with|nil=>exact absurd rfl hr|cons x y=>rfl
     have HRN:=hid hr;clear hr;go_wp2_with fail;refine(Ov B b _ r _ R4.o).mono ?_;rintro e w6 ⟨sv6,l6,QI,Qe,hcb⟩;have T6:=hid (T4.o.trans Qe);have M6:=hid (M5.o.turn hFS.o Qe hbw);have R6:=hid QI;clear QI Qe;rcases hcb with⟨hcn,rfl⟩|⟨c2,hcs,rfl⟩
     .have HV:Hid (je (dX f) d=none):=by show _=_;rw[HC.o.eq,RY HQ.o HRN.o hcn];rfl
      clear hcn;go_wp2_with fail;go_ret2
      exact⟨by rw[HV.o];rfl,BB.o _ T6.o⟩
     .have hcs2:=aaE hcs;have OA:Hid (CxI f B b w1 d (.slice fa (ss.length+1) fc) (ss++[(c,all)]) c2 l6 k w6):=⟨M6.o,⟨_,R6.o⟩,T6.o,by
        rw[HC.o.eq,LQ HQ.o alq.o HRN.o hcs,Option.map_map];congr 1
        funext x
        simp,fun n hn=>HC.o.mem n (HSF.o.1 n (hcs2.1 n hn)),by have:=HC.o.fuel;have:=HSF.o.2;have:=hcs2.2;omega,by have:=HC.o.len;simp;omega⟩
      clear hcs hcs2;go_wp2_with fail;go_roundg k;case measure=>omega
      case rel=>exact⟨_,ss++[(c,all)],c2,l6,rfl,rfl,by simp;omega,OA.o⟩
end
section
attribute [local go_sem] bI bJ aX aY
theorem Sl.amM{S:Nat->Prop}{w:WD}{a:Option Addr}{n cap:Nat}{ns:List Nd}(h:Sl S w (.slice a n cap) ns)(i j:Nat)(hij:i<=j)(hj:j<=ns.length):
  ∃a' c',(∀W:WD,(Instr.slice 128 (.slice a n cap) (some (.int .i64 (i:Int))) (some (.int .i64 (j:Int))) none).run prog W=.ok (.slice a' (j-i) c') W)/\Sl S w (.slice a' (j-i) c') ((ns.take j).drop i):=by
 obtain⟨iT,h1,_,h3,_⟩:=yZ;have hc:ns.length<=cap:=by obtain⟨_,_,e,hc,_⟩:=h;cases e;exact hc.1
 refine⟨if cap=i then a else a.map (·.add (i*4)),cap-i,fun W=>?_,?_⟩
 .rw[run_slice_lh (P:=prog) W 128 a n cap Tryz.underlying128 .i64 .i64 i j oo oo oo];have e:prog.elem 128=199:=by kernel_rfl
  simp[sizeOf,typeInfo,e,h1,h3,sliced,Result.andThen]
 .have:=h.cut i j hij hj;simpa[sliced]using this
theorem Sl.alr{S:Nat->Prop}{w:WD}{a:Option Addr}{cap:Nat}{ns:List Nd}(h:Sl S w (.slice a ns.length cap) ns)(i:Nat)(hi:i<=ns.length):
  ∃a' c',(∀W:WD,(Instr.slice 128 (.slice a ns.length cap) (some (.int .i64 (i:Int))) none none).run prog W=.ok (.slice a' (ns.length-i) c') W)/\Sl S w (.slice a' (ns.length-i) c') (ns.drop i):=by
 obtain⟨iT,h1,_,h3,_⟩:=yZ;refine⟨if cap=i then a else a.map (·.add (i*4)),cap-i,fun W=>?_,?_⟩
 .rw[run_slice_l (P:=prog) W 128 a ns.length cap Tryz.underlying128 .i64 i oo oo];have e:prog.elem 128=199:=by kernel_rfl
  simp[sizeOf,typeInfo,e,h1,h3,sliced,Result.andThen]
 .have:=h.cut i ns.length hi nl;rw[List.take_of_length_le nl]at this;simpa[sliced]using this
theorem ac4:∃i,prog.info? 128=some i/\i.zero=some (.slice none 0 0)/\i.size=1/\i.bytes=24:=info_parts An
theorem Hf.low{B B':Nat}{w w':WD}{l:List (List Nd)}{vs:List Av}(h:Hf (fun b=>b<B) w l vs)(hb:Below B' w w')(hB:B<=B'):Hf (fun b=>b<B) w' l vs:=h.keep (fun _ hg=>hg) fun g hg=>hb.block g (Nat.lt_of_lt_of_le hg hB)
structure SpI(B:Nat)(w:WD)(l:List Nd)(u:Av)(ps:List (List Nd))(vs:List Av)(bg i:Nat)(wr:WD):Prop where
 row:wr.ownsRow w.heap.size 128 1 u ps.length vs
 sls:Hf (fun b=>b<B) wr ps vs
 below:Below w.heap.size w wr
 eq:parted l=iZ ps ((l.take i).drop bg) (l.drop i)
 bi:bg<=i/\i<=l.length
 ln:ps.length<=bg
theorem agv(B:Nat)(l:List Nd)(v:Av)(w:WD)(h:Sl (fun b=>b<B) w v l)(hB:B<=w.heap.size):
  Calls prog 125 #[v,.string (b1 44)] w fun e w'=>∃v' vs,e=.returned v'/\w'.ownsRow w.heap.size 128 1 v' (parted l).length vs/\Hf (fun b=>b<B) w' (parted l) vs/\Below w.heap.size w w':=by
 have FU:=h.len;have HS:=hid h;obtain⟨a,cap,rfl⟩:=h.form;clear h;obtain⟨iT,hiT⟩:=ac4;have HI:=hid hiT;clear hiT;go_in;go_wp2_with fail;go_loopg[5,6,11] l.length (fun gg v5 v6 v11 wr=>∃(u:Av) (ps:List (List Nd)) (vs:List Av) (bg i:Nat),u=v5/\v6=.int .i64 (bg:Int)/\v11=.int .i64 (i:Int)/\i+gg=l.length/\bg<=i/\ps.length<=bg/\Aside (SpI B w l u ps vs bg i wr));case atStart=>exact⟨_,[],[],0,0,rfl,rfl,rfl,oo,oo,by simp,World.ownsRow_nil _ _ _ _,rfl,As,by simp[parted],⟨oo,oo⟩,by simp⟩
 case round=>
  obtain⟨u,ps,vs,bg,i,rfl,rfl,rfl,hi,hbi,hpb,hA⟩:=hrel;have HC:Hid (SpI B w l u ps vs bg i wr):=hA.o;clear hA;obtain⟨ua,uc,rfl⟩:=kQ HC.o.row;have hsr:=HC.o.below.size;by_cases hlt:i<l.length
  .have h1:(i:Int)<(l.length:Int):=oo;have S1:=HS.o.below HC.o.below hB;obtain⟨g,o,rfl,hL,hcap⟩:=S1.here (by rintro rfl;simp at hlt);obtain⟨kv,hN⟩:=hL.node (i:=i) hlt;obtain⟨n,hn⟩:∃n,n=l[i]:=⟨_,rfl⟩;have Hdr:Hid (l.drop i=n::l.drop (i+1)):=by show _=_;rw[hn];exact List.drop_eq_getElem_cons hlt
   have Htk:Hid ((l.take (i+1)).drop bg=(l.take i).drop bg++[n]):=by show _=_;rw[List.take_succ_eq_append_getElem hlt,<-hn,List.drop_append_of_le_length (by simp;omega)]
   rw[<-hn]at hN;obtain⟨ka,kc,rfl⟩:=hN.k.form;have d0:=hN.c0;have d1:=hN.c1;have d2:=hN.c2;have d3:=hN.c3;have hgB:g<B:=hN.s;clear hN hL S1 hn;have A2:Hid (VB (wr.alloc (.cells #[.int .i64 n.t.kind,.string n.t.word,.string n.t.unit,.slice ka n.kids.length kc] 199)) wr.heap.size (.int .i64 n.t.kind) (.string n.t.word) (.string n.t.unit) (.slice ka n.kids.length kc)):=VB.new _ _ _ _ _;have B2:Hid (Below wr.heap.size wr (wr.alloc (.cells #[.int .i64 n.t.kind,.string n.t.word,.string n.t.unit,.slice ka n.kids.length kc] 199))):=As.alloc nl _;go_upto_region 6 with fail
   generalize wr.alloc (.cells #[.int .i64 n.t.kind,.string n.t.word,.string n.t.unit,.slice ka n.kids.length kc] 199)=w2 at *;obtain⟨gt,mV⟩:=Nm wr.heap.size;have A3:Hid (VB w2 gt (.int .i64 n.t.kind) (.string n.t.word) (.string n.t.unit) (.slice ka n.kids.length kc)):=by rw[<-mV.o];exact A2
   rw[mV.o];clear A2 d0 d1 d2 d3;obtain⟨a0,a1,a2,a3⟩:=A3.o.cs;go_wp2_with fail;refine pmb (jf n.t _ (b1 44) _) fun w3 hb3=>?_;have B3:=hid (Ay B2.o hb3);clear hb3 a0 a1 a2 a3 A3 B2;have C3:Hid (SpI B w l (.slice ua ps.length uc) ps vs bg i w3):=⟨aP HC.o.row fun k hk=>B3.o.block k (HC.o.row.lt k hk).2,HC.o.sls.low B3.o oo,HC.o.below.trans (B3.o.mono hsr),HC.o.eq,HC.o.bi,HC.o.ln⟩;have hs3:=C3.o.below.size;clear HC B3;obtain⟨s1,Az⟩:=Nm (au n.t (b1 44));rw[Az.o];cases s1
   .have FZ:Hid (SpI B w l (.slice ua ps.length uc) ps vs bg (i+1) w3):=⟨C3.o.row,C3.o.sls,C3.o.below,by rw[C3.o.eq,Hdr.o,Htk.o];simp only[iZ,dN,Az.o];simp,⟨oo,oo⟩,C3.o.ln⟩;go_wp2_with fail;go_roundg(l.length-(i+1));case measure=>omega
    case rel=>exact⟨_,ps,vs,bg,i+1,rfl,rfl,by congr 1,oo,oo,hpb,FZ.o⟩
   .obtain⟨ca,cc,hrun,hcs⟩:=(HS.o.below C3.o.below hB).amM bg i hbi oo;have HCS:=hid hcs;have HRW:Hid ((w3.alloc (.cells #[.slice ca (i-bg) cc] 128)).ownsRow w.heap.size 128 1 (.slice ua ps.length uc) ps.length vs):=C3.o.row.alloc _;clear hcs;have q0:(0:Int)<=(bg:Int):=oo;have q1:(bg:Int)<=(i:Int):=oo;go_wp2_with(at_builtin;go_must(refine wpList_append_own_at _ rfl _ _ 212 rfl w.heap.size 128 iT (.slice none 0 0) 1 24 Tryz.underlying212 HI.o.1 HI.o.2.1 HI.o.2.2.1 HI.o.2.2.2 rfl oo (.slice ua ps.length uc) ps.length vs rfl HRW.o ⟨w3.heap.size,0,none⟩ 1 1 [.slice ca (i-bg) cc] rfl rfl (nO _ _ _) (by simp[Value.oneCell']) Ao oo Al ?_));intro v4 w4 hown4 dS _ oh
    have hlo:∀rr,Value.ownBlock (.slice ua ps.length uc)=some rr->w.heap.size<=rr:=fun rr hr=>(HRW.o.lt rr hr).1;have hb4:Below w.heap.size w3 w4:=(As.alloc hs3 _).grown dS Al hlo;have FZ:Hid (SpI B w l v4 (ps++[(l.take i).drop bg]) (vs++[.slice ca (i-bg) cc]) (i+1) (i+1) w4):=⟨by rw[List.length_append];exact hown4,Hf.snoc _ _ (C3.o.sls.low hb4 hB) _ _ (HCS.o.below hb4 hB),C3.o.below.trans hb4,by
      rw[C3.o.eq,Hdr.o];simp only[iZ,dN,Az.o,if_true];congr 1
      rw[List.drop_of_length_le (by simp;omega)],⟨Nat.le_refl _,oo⟩,by have:=C3.o.ln;simp;omega⟩
    have hl4:(ps++[(l.take i).drop bg]).length<=i+1:=FZ.o.ln;clear hown4 dS oh hb4 hlo;go_wp2_with fail;go_roundg(l.length-(i+1));case measure=>omega
    case rel=>exact⟨_,_,_,i+1,i+1,rfl,by congr 1,by congr 1,oo,oo,hl4,FZ.o⟩
  .have h1:(l.length:Int)<=(i:Int):=oo;obtain rfl:i=l.length:=oo;obtain⟨ca,cc,hrun,hcs⟩:=(HS.o.below HC.o.below hB).alr bg oo;have HCS:=hid hcs;have HRW:Hid ((wr.alloc (.cells #[.slice ca (l.length-bg) cc] 128)).ownsRow w.heap.size 128 1 (.slice ua ps.length uc) ps.length vs):=HC.o.row.alloc _;clear hcs;have q0:(0:Int)<=(bg:Int):=oo;have q1:(bg:Int)<=(l.length:Int):=oo;go_wp2_with(at_builtin;go_must(refine wpList_append_own_at _ rfl _ _ 212 rfl w.heap.size 128 iT (.slice none 0 0) 1 24 Tryz.underlying212 HI.o.1 HI.o.2.1 HI.o.2.2.1 HI.o.2.2.2 rfl oo (.slice ua ps.length uc) ps.length vs rfl HRW.o ⟨wr.heap.size,0,none⟩ 1 1 [.slice ca (l.length-bg) cc] rfl rfl (nO _ _ _) (by simp[Value.oneCell']) Ao oo Al ?_));intro v4 w4 hown4 dS _ oh
   have hlo:∀rr,Value.ownBlock (.slice ua ps.length uc)=some rr->w.heap.size<=rr:=fun rr hr=>(HRW.o.lt rr hr).1;have hb4:Below w.heap.size wr w4:=(As.alloc hsr _).grown dS Al hlo;have HE:Hid (parted l=ps++[l.drop bg]):=by show _=_;rw[HC.o.eq,List.drop_of_length_le nl,List.take_of_length_le nl];rfl
   have HO4:Hid (w4.ownsRow w.heap.size 128 1 v4 (parted l).length (vs++[.slice ca (l.length-bg) cc])):=by rw[HE.o,List.length_append];exact hown4
   have HS4:Hid (Hf (fun b=>b<B) w4 (parted l) (vs++[.slice ca (l.length-bg) cc])):=by rw[HE.o];exact Hf.snoc _ _ (HC.o.sls.low hb4 hB) _ _ (HCS.o.below hb4 hB)
   have HB4:=hid (HC.o.below.trans hb4);clear hown4 dS oh hb4 hlo;go_wp2_with fail;go_ret;exact⟨_,_,rfl,HO4.o,HS4.o,HB4.o⟩
end
section
attribute [local go_sem] bI bJ aX aY
theorem Sl.ok{S:Nat->Prop}{w:WD}{v:Av}{ns:List Nd}(h:Sl S w v ns):∀n∈ns,dI n.t:=by intro n hn;obtain⟨a,cap,rfl⟩:=h.form;obtain⟨g,o,rfl,hL,_⟩:=h.here (by rintro rfl;simp at hn);obtain⟨i,hi,e⟩:=List.getElem_of_mem hn;obtain⟨kv,hN⟩:=hL.node (i:=i) hi;rw[<-e];exact hN.ok
theorem Si{t:Tok}(h:t.kind=11):closing t≠aA:=by unfold closing;rw[if_pos h];decide
theorem WH{f:Nat}{l:List Nd}(h:depth l<=f):∀p∈parted l,∀n∈p,n.t.kind=11->depth n.kids+1<=f:=by intro p hp n hn hk;have h1:eU n<=f:=Ey l [] [] (fun n=>eU n<=f) Aa Aa (fun n hn=>Nat.le_trans (Ai l n hn) h) p hp n hn;rw[xE (Si hk)]at h1;exact h1
theorem ac5:∃i,prog.info? 148=some i/\i.zero=some (.slice none 0 0)/\i.size=1/\i.bytes=24:=info_parts An
structure RlI(f B:Nat)(w w1:WD)(l:List Nd)(vs:List Av)(pv:Av)(u:Av)(ss:bY)(i:Nat)(wr:WD):Prop where
 row:MG (AA (aQ f)) 1 148 w1.heap.size wr u ss
 ajr:wr.ownsRow w.heap.size 128 1 pv (parted l).length vs
 sls:Hf (fun b=>b<B) wr (parted l) vs
 below:Below w1.heap.size w1 wr
 eq:fZ (dX f) (parted l)=(fZ (dX f) ((parted l).drop i)).map (fun x=>ss++x)
 ln:ss.length=i
 plt:∀k,pv.ownBlock=some k->k<w1.heap.size
theorem YO(f:Nat)(hR:Lh f):vK f:=by
 intro B l v w hd h hB;have HS:=hid h;have HR:=hid hR;have HD:Hid (depth l<=f):=hd;obtain⟨a,cap,rfl⟩:=h.form;clear h hR hd;obtain⟨iT,hiT⟩:=ac5;have HI:=hid hiT;clear hiT;have hF:Hid (Fair (AA (aQ f))):=One.fair (fO.fair (aQ.fair f));have HL:Hid (lM f l=oz (dX f) l):=agb f l;obtain⟨ps,KP⟩:=Nm (parted l);have hpl:ps.length<=601:=by have:=WA l;rw[KP.o]at this;have:=HS.o.len;omega
 go_in;go_wp2_with fail;refine(agv B l _ w HS.o hB).mono ?_;rw[KP.o];rintro e w1 ⟨pv,vs,rfl,hrow,als,hb1⟩;obtain⟨qa,qc,rfl⟩:=kQ hrow;have B1:=hid hb1;have hw1:=hb1.size;have I0:Hid (RlI f B w w1 l vs (.slice qa ps.length qc) (.slice none 0 0) [] 0 w1):=⟨MG.nil _ _ _ _ _,by rw[KP.o];exact hrow,by rw[KP.o];exact als,As,by simp,rfl,fun k hk=>(hrow.lt k hk).2⟩;clear hrow als hb1 HS;by_cases h8:8<ps.length
 .have h8':(8:Int)<(ps.length:Int):=oo;have HV:Hid (lM f l=none):=by show _=_;rw[HL.o];unfold oz;rw[KP.o,if_pos h8]
  go_wp2_with fail;go_ret2
  exact⟨by unfold rdP;rw[HV.o];rfl,B1.o⟩
 .have h8':(ps.length:Int)<=8:=oo;have HV:Hid (lM f l=fZ (dX f) ps):=by show _=_;rw[HL.o];unfold oz;rw[KP.o,if_neg h8]
  go_wp2_with fail;go_loopg[5,17] ps.length (fun gg v5 v17 wr=>∃(u:Av) (ss:bY) (i:Nat),u=v5/\v17=.int .i64 (i:Int)/\i+gg=ps.length/\ss.length<=601/\Aside (RlI f B w w1 l vs (.slice qa ps.length qc) u ss i wr));case atStart=>exact⟨_,[],0,rfl,rfl,oo,by simp,I0.o⟩
  case round=>
   obtain⟨u,ss,i,rfl,rfl,hi,ant,hA⟩:=hrel;have HC:Hid (RlI f B w w1 l vs (.slice qa ps.length qc) u ss i wr):=hA.o;clear hA I0;obtain⟨ua,uc,rfl⟩:=HC.o.row.form;have hsr:=HC.o.below.size;by_cases hlt:i<ps.length
   .have h1:(i:Int)<(ps.length:Int):=oo;have hsl:=HC.o.sls;have hpr:=HC.o.ajr;rw[KP.o]at hsl hpr;obtain⟨pvi,hvi,hpi⟩:=Hf.at ps vs hsl i hlt;obtain⟨g,c',hq⟩:∃g c',Value.slice qa ps.length qc=.slice (some ⟨g,0,none⟩) ps.length c':=by
     rcases hpr.2 with⟨hv,hn⟩|⟨g,c',_,hv,_⟩
     .omega
     .exact⟨g,c',hv⟩
    injection hq with hq1 _ hq2
    subst hq1 hq2;obtain⟨p,Hp⟩:=Nm (ps[i]);rw[Hp.o]at hpi;have c0:wr.cell? ⟨g,i,none⟩=some pvi:=by have:=hpr.cells (g:=g) rfl i pvi hvi;rwa[Addr.add_lit,Nat.zero_add]at this
    have hpm:p∈parted l:=by rw[KP.o,<-Hp.o];exact List.getElem_mem _
    have HDP:Hid (uo f p):=fun n hn=>⟨WH HD.o p hpm n hn,by have:=(hpi.ok n hn).word;omega⟩;have HNP:Hid (NmL p):=fun n hn hk=>(hpi.ok n hn).named (.inr (.inr (.inr hk)));obtain⟨pa,pc,rfl⟩:=hpi.form;have HPI:=hid hpi;have HE:Hid ((parted l).drop i=p::(parted l).drop (i+1)):=by show _=_;rw[KP.o,List.drop_eq_getElem_cons hlt,Hp.o]
    clear hsl hpr hvi hpi hpm;go_wp2_with fail;refine(LV f HR.o B p _ wr HPI.o oo HDP.o HNP.o).mono ?_;rintro e w2 ⟨hcp,hb2⟩;have B2:=hid (HC.o.below.trans (hb2.mono hsr));have M2:=hid (HC.o.row.below hF.o hb2);have P2:Hid (w2.ownsRow w.heap.size 128 1 (.slice (some ⟨g,0,none⟩) ps.length qc) (parted l).length vs):=aP HC.o.ajr fun k hk=>hb2.block k (HC.o.ajr.lt k hk).2;have S2:=hid (HC.o.sls.low hb2 oo);have hs2:=hb2.size;clear hb2;unfold cxP at hcp;cases hx:je (dX f) (bare p)with
    |none=>
     rw[hx]at hcp;subst hcp;have HN:Hid (lM f l=none):=by show _=_;rw[HV.o,<-KP.o,HC.o.eq,HE.o,WB hx];rfl
     clear hx;go_wp2_with fail;go_ret2
     exact⟨by unfold rdP;rw[HN.o];rfl,B1.o.trans (B2.o.mono hw1)⟩
    |some cx=>
     rw[hx]at hcp;obtain⟨sv,rfl,hsg⟩:=hcp;obtain⟨sa,sc,rfl⟩:=hsg.form;have HN:Hid (fZ (dX f) (parted l)=(fZ (dX f) ((parted l).drop (i+1))).map (fun x=>(ss++[cx])++x)):=by
      show _=_;rw[HC.o.eq,HE.o,WC hx,Option.map_map];congr 1
      funext x
      simp
     have PA:∀o,Hid (AA (aQ f) (DZ w1.heap.size (w2.alloc o) (.slice ua ss.length uc)) (w2.alloc o) cx [.slice sa cx.length sc]):=fun o=>HC.o.row.apart hF.o (show AA (aQ f) (oD wr.heap.size w2) w2 cx [.slice sa cx.length sc] from⟨_,rfl,hsg⟩) hsr Aa (fun g hg=>Below.heap_alloc _ _ _ hg);obtain⟨cs,hown,pX⟩:=(M2.o.alloc hF.o (.cells #[.slice sa cx.length sc] 148));have HO:=hid hown;have Wx:=hid pX;clear hx hsg hown pX
     go_wp2_with(at_builtin;go_must(refine wpList_append_own_at _ rfl _ _ 98 rfl w1.heap.size 148 iT (.slice none 0 0) 1 24 Tryz.underlying98 HI.o.1 HI.o.2.1 HI.o.2.2.1 HI.o.2.2.2 rfl oo (.slice ua ss.length uc) ss.length cs rfl HO.o ⟨w2.heap.size,0,none⟩ 1 1 [.slice sa cx.length sc] rfl rfl (nO _ _ _) (by simp[Value.oneCell']) Ao oo Al ?_));intro v4 w4 hown4 dS _ oh;have hlo:∀rr,Value.ownBlock (.slice ua ss.length uc)=some rr->w1.heap.size<=rr:=fun rr hr=>(HO.o.lt rr hr).1;have hb4:Below w1.heap.size w2 w4:=(As.alloc oo _).grown dS Al hlo;have FZ:Hid (RlI f B w w1 l vs (.slice (some ⟨g,0,none⟩) ps.length qc) v4 (ss++[cx]) (i+1) w4):=⟨MG.snoc hF.o Wx.o (PA _).o hown4 dS (by simpa using oh),aP P2.o fun k hk=>by
       have hk1:k=g:=by simp[Value.ownBlock]at hk;exact hk.symm
       have hg1:g<w1.heap.size:=HC.o.plt g rfl;exact hb4.block k oo,S2.o.low hb4 oo,B2.o.trans hb4,HN.o,by have:=HC.o.ln;simp;omega,HC.o.plt⟩
     clear hown4 dS oh hb4 hlo;go_wp2_with fail;go_roundg(ps.length-(i+1));case measure=>omega
     case rel=>exact⟨_,ss++[cx],i+1,rfl,by congr 1,oo,by have:=HC.o.ln;simp;omega,FZ.o⟩
   .have h1:(ps.length:Int)<=(i:Int):=oo;have HN:Hid (lM f l=some ss):=by
     show _=_;rw[HV.o,<-KP.o,HC.o.eq,List.drop_of_length_le (by rw[KP.o];omega)];simp[fZ]
    have HG:Hid (SG (AA (aQ f)) 1 (oD w.heap.size wr) wr (.slice ua ss.length uc) ss):=(HC.o.row.sl hF.o (One.sized _ _) oo).keep hF.o (xO hw1) fun _ _=>rfl;go_wp2_with fail;go_ret2
    exact⟨by unfold rdP;rw[HN.o];exact⟨_,rfl,HG.o⟩,B1.o.trans (HC.o.below.mono hw1)⟩
theorem Jk:∀f,vK f
 |0=>YO 0 trivial
 |f+1=>YO (f+1) (Jk f)
end
theorem vW(sep:BY):∀(l:List BY),(jX sep l).size<=total l+l.length*sep.size
 |[]=>by show 0<=_;omega
 |[a]=>by show a.size<=a.size+0+_;omega
 |a::b::r=>by have ih:=vW sep (b::r);show(a++(sep++jX sep (b::r))).size<=a.size+total (b::r)+_;rw[ByteArray.size_append,ByteArray.size_append];simp only[List.length_cons,Nat.add_mul]at ih⊢;omega
theorem WI[bV](hd:jm)(root:BY)(ss:bY)(hq:CO ss)(hr:root.size<=12)(hl:ss.length<=2097152):(jV (jc root) ss).size<=zL ss+29360128:=by
 have h1:=vW (b1 44) (ss.map (fun x=>jc root++dW x));rw[AX,List.length_map]at h1;have h2:=zf hd (jc root) ss hq;have h3:(jc root).size<=14:=by
  unfold jc;split
  .show 0<=14;omega
  .rw[ByteArray.size_append,ByteArray.size_append];show 1+(_+1)<=14;omega
 have h4:ss.length*(jc root).size<=2097152*14:=Nat.mul_le_mul hl h3;have e:(b1 44).size=1:=rfl;rw[e]at h1;omega
theorem Jl(p:aF)(l:List Nd):(tX p l).size<=Qk (decls l):=by have h1:=vW (b1 59) (((decls l).filter (kR p)).map jW);have h2:=Jh p (decls l);have e:(b1 59).size=1:=rfl;rw[e,List.length_map]at h1;unfold tX;omega
def Jm[bV](p:aF)(hd bl:List Nd):BY:=match Ot hd with|none=>aA|some ss=>yg (jV (jc p.root) ss) (tX p bl)
theorem SG.wide{α:Type}{C:wV α}{sz:Nat}(hF:Fair C){base:Nat}{w:WD}{v:Av}{l:List α}(h:SG C sz (oD base w) w v l):SG C sz (fun b=>b<w.heap.size) w v l:=h.keep hF (fun _ hg=>hg.2) (fun _ _=>rfl)
theorem Sj[bV](B:Nat)(p:aF)(pv fv av:Av)(at_:BY)(has:Bool)(hd bl:List Nd)(hv bv:Av)(w:WD)(hP:jK B w p pv fv av)(hH:Sl (fun b=>b<B) w hv hd)(hBl:Sl (fun b=>b<B) w bv bl)(hI:jD w)(hds:jm)
  (hpr:allB jh p.root=true) (AY:p.root.size<=12) (hok:gu hd) (hzl:∀ss,Ot hd=some ss->zL ss<=274877906944) (hk:∀d∈decls bl,OJ d.val) (hz:Qk (decls bl)<=274877906944):
  Calls prog 71 #[dF p pv fv av,.agg #[.string at_,hv,.bool has,bv]] w fun e w'=>e=.returned (.string (Jm p hd bl))/\Below w.heap.size w w':=by
 have hB:=hP.lt;obtain⟨pa,pc,rfl⟩:=hP.props.form;obtain⟨fa,fc,rfl⟩:=hP.aJ.form;obtain⟨aa,ac,rfl⟩:=hP.ats.form;obtain⟨ha,hc,rfl⟩:=hH.form;obtain⟨ba,bc,rfl⟩:=hBl.form;have HPR:=hid hpr;have HII:=hid hI;have HDS:Hid jm:=hds;have VJ:=hid hok;have HZL:=hid hzl;have HKD:=hid hk;have hbs:=Jl p bl;have B1:Hid (Below w.heap.size w ((w.alloc (.cells #[.string p.root,.slice pa p.props.length pc,.slice fa p.aJ.length fc,.slice aa p.ats.length ac,.bool p.aU,.bool p.texts] 82)).alloc (.cells #[.string at_,.slice ha hd.length hc,.bool has,.slice ba bl.length bc] 130))):=fJ _ _ _
 have Q1:Hid (Q6 ((w.alloc (.cells #[.string p.root,.slice pa p.props.length pc,.slice fa p.aJ.length fc,.slice aa p.ats.length ac,.bool p.aU,.bool p.texts] 82)).alloc (.cells #[.string at_,.slice ha hd.length hc,.bool has,.slice ba bl.length bc] 130)) w.heap.size (.string p.root) (.slice pa p.props.length pc) (.slice fa p.aJ.length fc) (.slice aa p.ats.length ac) (.bool p.aU) (.bool p.texts)):=(Q6.new w _ _ _ _ _ _).alloc _;have R1:Hid (Q4 130 ((w.alloc (.cells #[.string p.root,.slice pa p.props.length pc,.slice fa p.aJ.length fc,.slice aa p.ats.length ac,.bool p.aU,.bool p.texts] 82)).alloc (.cells #[.string at_,.slice ha hd.length hc,.bool has,.slice ba bl.length bc] 130)) (w.heap.size+1) (.string at_) (.slice ha hd.length hc) (.bool has) (.slice ba bl.length bc)):=by have:=Q4.new 130 (w.alloc (.cells #[.string p.root,.slice pa p.props.length pc,.slice fa p.aJ.length fc,.slice aa p.ats.length ac,.bool p.aU,.bool p.texts] 82)) (.string at_) (.slice ha hd.length hc) (.bool has) (.slice ba bl.length bc);rw[show(w.alloc (.cells #[.string p.root,.slice pa p.props.length pc,.slice fa p.aJ.length fc,.slice aa p.ats.length ac,.bool p.aU,.bool p.texts] 82)).heap.size=w.heap.size+1 by simp]at this;exact this
 have HP1:=hid (hP.below B1.o hB);have HH1:=hid (hH.below B1.o hB)
 have HB1:=hid (hBl.below B1.o hB);clear hP hH hBl hI hds hpr hok hzl hk;unfold dF;go_in;go_upto_region 1 with fail
 generalize(w.alloc (.cells #[.string p.root,.slice pa p.props.length pc,.slice fa p.aJ.length fc,.slice aa p.ats.length ac,.bool p.aU,.bool p.texts] 82)).alloc (.cells #[.string at_,.slice ha hd.length hc,.bool has,.slice ba bl.length bc] 130)=w1 at *;have hs1:=B1.o.size;obtain⟨a0,a1,a2,a3⟩:=R1.o.cs;go_wp2_with fail;refine(Jk (depth hd) B hd _ w1 nl HH1.o oo).mono ?_;rintro e w2 ⟨hrd,hb2⟩;have X2:=hid hb2;have B2:=hid (B1.o.trans (hb2.mono hs1));have hs2:=hb2.size;have Q2:=hid (Q1.o.below hb2 Q1.o.lt);have R2:=hid (R1.o.below hb2);clear hb2 a0 a1 a2 a3
 unfold rdP at hrd;cases hsel:lM (depth hd) hd with
 |none=>
  rw[hsel]at hrd;have WJ:e=_:=hrd;subst WJ;have HV:Hid (Jm p hd bl=aA):=by show _=_;unfold Jm Ot;rw[hsel]
  clear hsel;go_wp2_with fail;go_ret;exact⟨mg HV.o.symm,B2.o⟩
 |some ss=>
  rw[hsel]at hrd;obtain⟨sv,rfl,hsg⟩:=hrd;obtain⟨sa,sc,rfl⟩:=hsg.form;have hsl:=hsg.len;have Rn:Hid (SG (AA (aQ (depth hd))) 1 (fun b=>b<w2.heap.size) w2 (.slice sa ss.length sc) ss):=hsg.wide (One.fair (fO.fair (aQ.fair _)));have HQ:Hid (CO ss):=Gw _ _ _ VJ.o hsel;have hzs:=HZL.o ss hsel;have HV:Hid (Jm p hd bl=yg (jV (jc p.root) ss) (tX p bl)):=by show _=_;unfold Jm Ot;rw[hsel]
  have hls:=WI HDS.o p.root ss HQ.o AY hsl;clear hsel hsg;have Qi:Hid (Q6 w2.drew w.heap.size (.string p.root) (.slice pa p.props.length pc) (.slice fa p.aJ.length fc) (.slice aa p.ats.length ac) (.bool p.aU) (.bool p.texts)/\Q4 130 w2.drew (w.heap.size+1) (.string at_) (.slice ha hd.length hc) (.bool has) (.slice ba bl.length bc)):=⟨Q2.o.drew,R2.o⟩;have BD:Hid (Below w.heap.size w w2.drew):=B2.o.drew;have HPD:Hid (jK B w2.drew p (.slice pa p.props.length pc) (.slice fa p.aJ.length fc) (.slice aa p.ats.length ac)):=HP1.o.below (X2.o.drew) oo;have VT:Hid (Sl (fun b=>b<B) w2.drew (.slice ba bl.length bc) bl):=HB1.o.below (X2.o.drew) oo;have HSD:Hid (SG (AA (aQ (depth hd))) 1 (fun b=>b<w2.heap.size) w2.drew (.slice sa ss.length sc) ss):=Rn.o.keep (One.fair (fO.fair (aQ.fair _))) (fun _ h=>h) (fun _ _=>rfl);go_wp2_with fail
  refine wp_region_any An ?_;change wpAny _ _ _ _ _ _ _ (World.drew _);refine wpAny_of_held (S:=fun wx=>Q6 wx w.heap.size (.string p.root) (.slice pa p.props.length pc) (.slice fa p.aJ.length fc) (.slice aa p.ats.length ac) (.bool p.aU) (.bool p.texts)/\Q4 130 wx (w.heap.size+1) (.string at_) (.slice ha hd.length hc) (.bool has) (.slice ba bl.length bc)) _ _ _ _ ?_;refine dH 0 rfl Qi.o (by intro w hSw;obtain⟨a0,a1,a2,a3,a4,a5⟩:=hSw.1.cs;exact gs) ?_;refine dH 2 rfl Qi.o (fun _ _=>gs) ?_;refine dH 4 rfl Qi.o (by intro w hSw;obtain⟨a0,a1,a2,a3,a4,a5⟩:=hSw.1.cs;exact gs) ?_;refine dH 5 rfl Qi.o (by intro w hSw;obtain⟨a0,a1,a2,a3⟩:=hSw.2.cs;exact gs) ?_
  refine dH 6 rfl Qi.o (by intro w hSw;obtain⟨a0,a1,a2,a3⟩:=hSw.2.cs;exact gs) ?_;have C1:=aaz B p _ _ _ w2.drew HPD.o;unfold dF at C1;have C1':Hid (Calls prog 123 #[.agg #[.string p.root,.slice pa p.props.length pc,.slice fa p.aJ.length fc,.slice aa p.ats.length ac,.bool p.aU,.bool p.texts]] w2.drew fun e w'=>e=.returned (.string p.root)/\Below w2.drew.heap.size w2.drew w'):=C1;clear C1;refine iW 1 fun K hK=>?_;go_simp;refine C1'.o.mono ?_;rintro e w3 ⟨rfl,hb3⟩;have X3:Hid (Below w2.heap.size w2.drew w3):=hb3;have B3:Hid (Below w.heap.size w w3):=BD.o.trans (hb3.mono (by show w.heap.size<=w2.heap.size;omega));have hs3:w2.heap.size<=w3.heap.size:=hb3.size
  have OC:Hid (Q6 w3 w.heap.size (.string p.root) (.slice pa p.props.length pc) (.slice fa p.aJ.length fc) (.slice aa p.ats.length ac) (.bool p.aU) (.bool p.texts)/\Q4 130 w3 (w.heap.size+1) (.string at_) (.slice ha hd.length hc) (.bool has) (.slice ba bl.length bc)):=⟨Qi.o.1.below hb3 Qi.o.1.lt,Qi.o.2.below hb3⟩;clear hb3 C1';refine hK.o _ _ OC.o (fun _=>?_);clear hK K;have C2:Hid (Calls prog 122 #[.string p.root,.slice sa ss.length sc] w3 fun e w'=>e=.returned (.string (jV (jc p.root) ss))/\Below w3.heap.size w3 w'):=RV (depth hd) w2.heap.size p.root ss _ w3 (HSD.o.below (One.fair (fO.fair (aQ.fair _))) X3.o nl) hs3 (HII.o.below B3.o nl) HQ.o hzs HDS.o HPR.o AY
  refine iW 3 fun K hK=>?_;go_simp;refine C2.o.mono ?_;obtain⟨lo,Hlo⟩:=Nm (jV (jc p.root) ss);rw[Hlo.o]at HV hls;rw[Hlo.o];rintro e w4 ⟨rfl,hb4⟩;have X4:Hid (Below w2.heap.size w2.drew w4):=X3.o.trans (hb4.mono hs3);have B4:=hid (B3.o.trans (hb4.mono oo));have hs4:w2.heap.size<=w4.heap.size:=X4.o.size;have OD:Hid (Q6 w4 w.heap.size (.string p.root) (.slice pa p.props.length pc) (.slice fa p.aJ.length fc) (.slice aa p.ats.length ac) (.bool p.aU) (.bool p.texts)/\Q4 130 w4 (w.heap.size+1) (.string at_) (.slice ha hd.length hc) (.bool has) (.slice ba bl.length bc)):=⟨OC.o.1.below hb4 OC.o.1.lt,OC.o.2.below hb4⟩;clear hb4 C2;refine hK.o _ _ OD.o (fun _=>?_);clear hK K;have C3:=Ji B p _ _ _ bl _ w4 (HPD.o.below X4.o oo) (VT.o.below X4.o oo) HKD.o hz;unfold dF at C3
  obtain⟨bo,Hbo⟩:=Nm (tX p bl);rw[Hbo.o]at HV hbs C3;have C3':Hid (Calls prog 124 #[.agg #[.string p.root,.slice pa p.props.length pc,.slice fa p.aJ.length fc,.slice aa p.ats.length ac,.bool p.aU,.bool p.texts],.slice ba bl.length bc] w4 fun e w'=>e=.returned (.string bo)/\Below w4.heap.size w4 w'):=C3;clear C3;refine iW 7 fun K hK=>?_;go_simp;refine C3'.o.mono ?_;rintro e w5 ⟨rfl,hb5⟩;have B5:=hid (B4.o.trans (hb5.mono oo));have hs5:w.heap.size<=w5.heap.size:=B5.o.size;have HH5:Hid (Q6 w5 w.heap.size (.string p.root) (.slice pa p.props.length pc) (.slice fa p.aJ.length fc) (.slice aa p.ats.length ac) (.bool p.aU) (.bool p.texts)/\Q4 130 w5 (w.heap.size+1) (.string at_) (.slice ha hd.length hc) (.bool has) (.slice ba bl.length bc)):=⟨OD.o.1.below hb5 OD.o.1.lt,OD.o.2.below hb5⟩;clear hb5 C3'
  refine hK.o _ _ HH5.o (fun _=>?_);clear hK K;refine iW 8 fun K hK=>?_;go_simp;refine pmb (RU lo bo w5 oo) fun w6 hb6=>?_;have B6:=hid (B5.o.trans (hb6.mono hs5));have HH6:Hid (Q6 w6 w.heap.size (.string p.root) (.slice pa p.props.length pc) (.slice fa p.aJ.length fc) (.slice aa p.ats.length ac) (.bool p.aU) (.bool p.texts)/\Q4 130 w6 (w.heap.size+1) (.string at_) (.slice ha hd.length hc) (.bool has) (.slice ba bl.length bc)):=⟨HH5.o.1.below hb6 HH5.o.1.lt,HH5.o.2.below hb6⟩;clear hb6;refine hK.o _ _ HH6.o (fun _=>?_);clear hK K;refine iW 9 fun K hK=>?_;go_simp;refine hK.o _ _ (HH6.o) (fun _=>?_);clear hK K;refine wpAnyH_done An ?_ _;go_wp2_with fail;go_ret;exact⟨mg HV.o.symm,B6.o⟩
def AZ(p:aF)(at_:BY)(has:Bool)(hd:List Nd)(ro:BY):BY:=if (has&&p.ats.contains (small at_)&&eH p hd)=true then yg (b1 64++(dP (small at_)++qE (bare hd))) ro else aA
def vX(p:aF)(pv fv av:Av)(rs:List Rule)(ro:BY)(w:WD):Prop:=∀(u:Av) (w':WD),Below w.heap.size w w'->SG dB 4 (fun b=>b<w'.heap.size) w' u rs->Calls prog 41 #[dF p pv fv av,u] w' fun e w''=>e=.returned (.string ro)/\Below w'.heap.size w' w''
theorem ac6(B:Nat)(p:aF)(pv fv av:Av)(at_:BY)(has:Bool)(hd bl:List Nd)(hv bv:Av)(ro:BY)(w:WD)(hP:jK B w p pv fv av)(hH:Sl (fun b=>b<B) w hv hd)(hBl:Sl (fun b=>b<B) w bv bl)
  (hat:at_.size<=4000000) (hkd:OJ hd) (hwz:dL (bare hd)<=274877906944) (hro:ro.size<=549755813888) (hR:has=true->p.ats.contains (small at_)=true->eH p hd=true->vX p pv fv av (rules false bl) ro w):
  Calls prog 70 #[dF p pv fv av,.agg #[.string at_,hv,.bool has,bv]] w fun e w'=>e=.returned (.string (AZ p at_ has hd ro))/\Below w.heap.size w w':=by
 have hB:=hP.lt;obtain⟨pa,pc,rfl⟩:=hP.props.form;obtain⟨fa,fc,rfl⟩:=hP.aJ.form;obtain⟨aa,ac,rfl⟩:=hP.ats.form;obtain⟨ha,hc,rfl⟩:=hH.form;obtain⟨ba,bc,rfl⟩:=hBl.form;have HKD:=hid hkd;have HR:=hid hR;have B1:Hid (Below w.heap.size w ((w.alloc (.cells #[.string p.root,.slice pa p.props.length pc,.slice fa p.aJ.length fc,.slice aa p.ats.length ac,.bool p.aU,.bool p.texts] 82)).alloc (.cells #[.string at_,.slice ha hd.length hc,.bool has,.slice ba bl.length bc] 130))):=fJ _ _ _
 have Q1:Hid (Q6 ((w.alloc (.cells #[.string p.root,.slice pa p.props.length pc,.slice fa p.aJ.length fc,.slice aa p.ats.length ac,.bool p.aU,.bool p.texts] 82)).alloc (.cells #[.string at_,.slice ha hd.length hc,.bool has,.slice ba bl.length bc] 130)) w.heap.size (.string p.root) (.slice pa p.props.length pc) (.slice fa p.aJ.length fc) (.slice aa p.ats.length ac) (.bool p.aU) (.bool p.texts)):=(Q6.new w _ _ _ _ _ _).alloc _;have R1:Hid (Q4 130 ((w.alloc (.cells #[.string p.root,.slice pa p.props.length pc,.slice fa p.aJ.length fc,.slice aa p.ats.length ac,.bool p.aU,.bool p.texts] 82)).alloc (.cells #[.string at_,.slice ha hd.length hc,.bool has,.slice ba bl.length bc] 130)) (w.heap.size+1) (.string at_) (.slice ha hd.length hc) (.bool has) (.slice ba bl.length bc)):=by have:=Q4.new 130 (w.alloc (.cells #[.string p.root,.slice pa p.props.length pc,.slice fa p.aJ.length fc,.slice aa p.ats.length ac,.bool p.aU,.bool p.texts] 82)) (.string at_) (.slice ha hd.length hc) (.bool has) (.slice ba bl.length bc);rw[show(w.alloc (.cells #[.string p.root,.slice pa p.props.length pc,.slice fa p.aJ.length fc,.slice aa p.ats.length ac,.bool p.aU,.bool p.texts] 82)).heap.size=w.heap.size+1 by simp]at this;exact this
 have HP1:=hid (hP.below B1.o hB);have HH1:=hid (hH.below B1.o hB)
 have HB1:=hid (hBl.below B1.o hB);clear hP hH hBl hkd hR;obtain⟨sm,Hsm⟩:=Nm (small at_);have amN:sm.size<=4000000:=by rw[<-Hsm.o,jE];exact hat
 unfold dF;go_in;go_upto_region 1 with fail
 generalize(w.alloc (.cells #[.string p.root,.slice pa p.props.length pc,.slice fa p.aJ.length fc,.slice aa p.ats.length ac,.bool p.aU,.bool p.texts] 82)).alloc (.cells #[.string at_,.slice ha hd.length hc,.bool has,.slice ba bl.length bc] 130)=w1 at *;have hs1:=B1.o.size;obtain⟨a0,a1,a2,a3⟩:=R1.o.cs;go_wp2_with fail;refine(nH at_ w1 hat).mono ?_;rw[Hsm.o];rintro e w2 ⟨rfl,hb2⟩;have X2:=hid hb2;have B2:=hid (B1.o.trans (hb2.mono hs1));have hs2:=hb2.size;have Q2:=hid (Q1.o.below hb2 Q1.o.lt);have R2:=hid (R1.o.below hb2);clear hb2 a0 a1 a2 a3
 obtain⟨a0,a1,a2,a3⟩:=R2.o.cs;obtain⟨q0,q1,q2,q3,q4,q5⟩:=Q2.o.cs;have HDF:Hid (AZ p at_ has hd ro=if (has&&p.ats.contains sm&&eH p hd)=true then yg (b1 64++(dP sm++qE (bare hd))) ro else aA):=by show _=_;unfold AZ;rw[Hsm.o]
 rw[Hsm.o]at HR;cases has
 .have HV:Hid (AZ p at_ false hd ro=aA):=HDF.o;go_wp2_with fail;go_ret;exact⟨mg HV.o.symm,B2.o⟩
 .have C1:=LJ B p _ _ _ w2 sm (HP1.o.below X2.o oo);unfold dF at C1;obtain⟨z1,Hz1⟩:=Nm (p.ats.contains sm);rw[Hz1.o]at C1 HDF HR;have C1':Hid (Calls prog 116 #[.agg #[.string p.root,.slice pa p.props.length pc,.slice fa p.aJ.length fc,.slice aa p.ats.length ac,.bool p.aU,.bool p.texts],.string sm] w2 fun e w'=>e=.returned (.bool z1)/\Below w2.heap.size w2 w'):=C1;clear C1;go_wp2_with fail;refine C1'.o.mono ?_;rintro e w3 ⟨rfl,hb3⟩;have X3:=hid (X2.o.trans (hb3.mono hs2));have B3:=hid (B1.o.trans (X3.o.mono hs1));have hs3:=X3.o.size;have Q3':Hid (Q6 w3 w.heap.size (.string p.root) (.slice pa p.props.length pc) (.slice fa p.aJ.length fc) (.slice aa p.ats.length ac) (.bool p.aU) (.bool p.texts)):=Q2.o.below hb3 Q2.o.lt
  have R3:=hid (R2.o.below hb3);clear hb3 a0 a1 a2 a3 q0 q1 q2 q3 q4 q5 C1';obtain⟨a0,a1,a2,a3⟩:=R3.o.cs;obtain⟨q0,q1,q2,q3,q4,q5⟩:=Q3'.o.cs;cases z1
  .have HV:Hid (AZ p at_ true hd ro=aA):=HDF.o;go_wp2_with fail;go_ret;exact⟨mg HV.o.symm,B3.o⟩
  .have C2:=Dh hd B p (.slice pa p.props.length pc) (.slice fa p.aJ.length fc) (.slice aa p.ats.length ac) (.slice ha hd.length hc) w3 (HP1.o.below X3.o oo) (HH1.o.below X3.o oo) HKD.o;unfold dF at C2;obtain⟨z2,Hz2⟩:=Nm (eH p hd);rw[Hz2.o]at C2 HDF HR;have C2':Hid (Calls prog 117 #[.agg #[.string p.root,.slice pa p.props.length pc,.slice fa p.aJ.length fc,.slice aa p.ats.length ac,.bool p.aU,.bool p.texts],.slice ha hd.length hc] w3 fun e w'=>e=.returned (.bool z2)/\Below w3.heap.size w3 w'):=C2;clear C2;go_wp2_with fail;refine C2'.o.mono ?_;rintro e w4 ⟨rfl,hb4⟩;have X4:=hid (X3.o.trans (hb4.mono hs3));have B4:=hid (B1.o.trans (X4.o.mono hs1));have hs4:=X4.o.size
   have Q4':Hid (Q6 w4 w.heap.size (.string p.root) (.slice pa p.props.length pc) (.slice fa p.aJ.length fc) (.slice aa p.ats.length ac) (.bool p.aU) (.bool p.texts)):=Q3'.o.below hb4 Q3'.o.lt;have R4:=hid (R3.o.below hb4);clear hb4 a0 a1 a2 a3 q0 q1 q2 q3 q4 q5 C2';cases z2
   .have HV:Hid (AZ p at_ true hd ro=aA):=HDF.o;go_wp2_with fail;go_ret;exact⟨mg HV.o.symm,B4.o⟩
   .have HV:Hid (AZ p at_ true hd ro=yg (b1 64++(dP sm++qE (bare hd))) ro):=HDF.o;have HRR:Hid (vX p (.slice pa p.props.length pc) (.slice fa p.aJ.length fc) (.slice aa p.ats.length ac) (rules false bl) ro w):=HR.o (by first|rfl|trivial) (by first|rfl|trivial) (by first|rfl|trivial);have hhs:(b1 64++(dP sm++qE (bare hd))).size<=274894906947:=by
     have h1:=fQ sm;have h2:=Jf (bare hd);rw[ByteArray.size_append,ByteArray.size_append];show 1+_<=_;omega
    have OD:Hid (Q6 w4.drew w.heap.size (.string p.root) (.slice pa p.props.length pc) (.slice fa p.aJ.length fc) (.slice aa p.ats.length ac) (.bool p.aU) (.bool p.texts)/\Q4 130 w4.drew (w.heap.size+1) (.string at_) (.slice ha hd.length hc) (.bool true) (.slice ba bl.length bc)):=⟨Q4'.o.drew,R4.o⟩;have X4D:Hid (Below w1.heap.size w1 w4.drew):=X4.o.drew;have B4D:Hid (Below w.heap.size w w4.drew):=B4.o.drew;go_wp2_with fail;refine wp_region_any An ?_;change wpAny _ _ _ _ _ _ _ (World.drew _);refine wpAny_of_held (S:=fun wx=>Q6 wx w.heap.size (.string p.root) (.slice pa p.props.length pc) (.slice fa p.aJ.length fc) (.slice aa p.ats.length ac) (.bool p.aU) (.bool p.texts)/\Q4 130 wx (w.heap.size+1) (.string at_) (.slice ha hd.length hc) (.bool true) (.slice ba bl.length bc)) _ _ _ _ ?_
    refine dH 0 rfl OD.o (fun _ _=>gs) ?_;refine dH 1 rfl OD.o (by intro w hSw;obtain⟨a0,a1,a2,a3⟩:=hSw.2.cs;exact gs) ?_;refine dH 2 rfl OD.o (by intro w hSw;obtain⟨a0,a1,a2,a3⟩:=hSw.2.cs;exact gs) ?_;refine dH 5 rfl OD.o (by intro w hSw;obtain⟨a0,a1,a2,a3,a4,a5⟩:=hSw.1.cs;exact gs) ?_;refine dH 6 rfl OD.o (by intro w hSw;obtain⟨a0,a1,a2,a3⟩:=hSw.2.cs;exact gs) ?_;refine dH 7 rfl OD.o (by intro w hSw;obtain⟨a0,a1,a2,a3⟩:=hSw.2.cs;exact gs) ?_;refine iW 3 fun K hK=>?_;go_simp;refine(tu B hd _ w4.drew (HH1.o.below X4D.o oo)).mono ?_;rintro e w5 ⟨v5,rfl,hS5,hw5⟩;subst hw5;obtain⟨ta,tc,rfl⟩:=hS5.form
    have HS5:Hid (Sl (fun b=>b<B) w4.drew (.slice ta (bare hd).length tc) (bare hd)):=hS5;clear hS5;refine hK.o _ _ OD.o (fun _=>?_);clear hK K;refine iW 4 fun K hK=>?_;go_simp;refine(ac0 B sm (bare hd) _ w4.drew HS5.o (by show B<=w4.heap.size;omega) amN oo).mono ?_;obtain⟨ho,Hho⟩:=Nm (b1 64++(dP sm++qE (bare hd)));rw[Hho.o]at HV hhs;rw[Hho.o];rintro e w6 ⟨rfl,hb6⟩;have X6:=hid (X4D.o.trans (hb6.mono hs4));have B6:=hid (B1.o.trans (X6.o.mono hs1));have hs6:=X6.o.size
    have HH6:Hid (Q6 w6 w.heap.size (.string p.root) (.slice pa p.props.length pc) (.slice fa p.aJ.length fc) (.slice aa p.ats.length ac) (.bool p.aU) (.bool p.texts)/\Q4 130 w6 (w.heap.size+1) (.string at_) (.slice ha hd.length hc) (.bool true) (.slice ba bl.length bc)):=⟨OD.o.1.below hb6 OD.o.1.lt,OD.o.2.below hb6⟩;clear hb6;refine hK.o _ _ HH6.o (fun _=>?_);clear hK K;refine iW 8 fun K hK=>?_;go_simp;refine(Ro B bl _ w6 (HB1.o.below X6.o oo) oo).mono ?_;rintro e w7 ⟨u7,rfl,ajs,hb7⟩;obtain⟨ra,rc,rfl⟩:=ajs.form;have B7:=hid (B6.o.trans (hb7.mono oo));have hs7:=B7.o.size
    have HH7:Hid (Q6 w7 w.heap.size (.string p.root) (.slice pa p.props.length pc) (.slice fa p.aJ.length fc) (.slice aa p.ats.length ac) (.bool p.aU) (.bool p.texts)/\Q4 130 w7 (w.heap.size+1) (.string at_) (.slice ha hd.length hc) (.bool true) (.slice ba bl.length bc)):=⟨HH6.o.1.below hb7 HH6.o.1.lt,HH6.o.2.below hb7⟩;have C7:=HRR.o _ w7 B7.o ajs;unfold dF at C7;have C7':Hid (Calls prog 41 #[.agg #[.string p.root,.slice pa p.props.length pc,.slice fa p.aJ.length fc,.slice aa p.ats.length ac,.bool p.aU,.bool p.texts],.slice ra (rules false bl).length rc] w7 fun e w''=>e=.returned (.string ro)/\Below w7.heap.size w7 w''):=C7;clear hb7 ajs C7;refine hK.o _ _ HH7.o (fun _=>?_);clear hK K;refine iW 9 fun K hK=>?_;go_simp;refine C7'.o.mono ?_;rintro e w8 ⟨rfl,hb8⟩;have B8:=hid (B7.o.trans (hb8.mono hs7));have hs8:=B8.o.size
    have HH8:Hid (Q6 w8 w.heap.size (.string p.root) (.slice pa p.props.length pc) (.slice fa p.aJ.length fc) (.slice aa p.ats.length ac) (.bool p.aU) (.bool p.texts)/\Q4 130 w8 (w.heap.size+1) (.string at_) (.slice ha hd.length hc) (.bool true) (.slice ba bl.length bc)):=⟨HH7.o.1.below hb8 HH7.o.1.lt,HH7.o.2.below hb8⟩;clear hb8 C7';refine hK.o _ _ HH8.o (fun _=>?_);clear hK K;refine iW 10 fun K hK=>?_;go_simp;refine pmb (RU ho ro w8 oo) fun w9 hb9=>?_;have B9:=hid (B8.o.trans (hb9.mono hs8));have HH9:Hid (Q6 w9 w.heap.size (.string p.root) (.slice pa p.props.length pc) (.slice fa p.aJ.length fc) (.slice aa p.ats.length ac) (.bool p.aU) (.bool p.texts)/\Q4 130 w9 (w.heap.size+1) (.string at_) (.slice ha hd.length hc) (.bool true) (.slice ba bl.length bc)):=⟨HH8.o.1.below hb9 HH8.o.1.lt,HH8.o.2.below hb9⟩;clear hb9
    refine hK.o _ _ HH9.o (fun _=>?_);clear hK K;refine iW 11 fun K hK=>?_;go_simp;refine hK.o _ _ (HH9.o) (fun _=>?_);clear hK K;refine wpAnyH_done An ?_ _;go_wp2_with fail;go_ret;exact⟨mg HV.o.symm,B9.o⟩
theorem vX.later{p:aF}{pv fv av:Av}{rs:List Rule}{ro:BY}{w w':WD}(h:vX p pv fv av rs ro w)(hb:Below w.heap.size w w'):vX p pv fv av rs ro w':=fun u w'' hb2 hs=>h u w'' (hb.trans (hb2.mono hb.size)) hs
def kE[bV](p:aF)(rec:List Nd->BY)(r:Rule):BY:=match r.at_ with|some x=>AZ p x r.body.isSome r.head (rec (r.body.getD []))|none=>Jm p r.head (r.body.getD [])
structure FH(p:aF)(pv fv av:Av)(rec:List Nd->BY)(w:WD)(r:Rule):Prop where
 okh:gu r.head
 kdh:OJ r.head
 body:r.at_=none->r.body.isSome=true
 wz:dL (bare r.head)<=274877906944
 sel:∀ss,Ot r.head=some ss->zL ss<=274877906944
 dk:r.at_=none->∀d∈decls (r.body.getD []),OJ d.val
 dz:r.at_=none->Qk (decls (r.body.getD []))<=274877906944
 rsz:(rec (r.body.getD [])).size<=549755813888
 rok:∀x b,r.at_=some x->r.body=some b->vX p pv fv av (rules false b) (rec b) w
theorem FH.later{p:aF}{pv fv av:Av}{rec:List Nd->BY}{w w':WD}{r:Rule}(h:FH p pv fv av rec w r)(hb:Below w.heap.size w w'):FH p pv fv av rec w' r:=⟨h.okh,h.kdh,h.body,h.wz,h.sel,h.dk,h.dz,h.rsz,fun x b h1 h2=>(h.rok x b h1 h2).later hb⟩
theorem LG.rul{S:Nat->Prop}{w:WD}{l:List Rule}{g o i:Nat}(h:LG dB 4 S w l g o)(hi:i<l.length):S g/\∃hv bv bl,w.cell? ⟨g,o+i*4,none⟩=some (.string (l[i].at_.getD aA))/\w.cell? ⟨g,o+i*4+1,none⟩=some hv/\w.cell? ⟨g,o+i*4+2,none⟩=some (.bool l[i].body.isSome)/\w.cell? ⟨g,o+i*4+3,none⟩=some bv/\Sl S w hv l[i].head/\Sl S w bv bl/\(∀b,l[i].body=some b->bl=b)/\(∀x,l[i].at_=some x->x≠aA/\x.size<=4000000):=by obtain⟨h0,cs,⟨hv,bv,bl,rfl,hs,hp,hb,ha⟩,hc⟩:=h.at l g o i hi;refine⟨h0,hv,bv,bl,?_,hc 1 _ rfl,hc 2 _ rfl,hc 3 _ rfl,hs,hp,hb,ha⟩;have:=hc 0 _ rfl;rwa[Nat.add_zero]at this
theorem WL[bV](B:Nat)(p:aF)(pv fv av:Av)(rec:List Nd->BY)(r:Rule)(hv bv:Av)(bl:List Nd)(w:WD)(hP:jK B w p pv fv av)(hH:Sl (fun b=>b<B) w hv r.head)(hBl:Sl (fun b=>b<B) w bv bl)(hb:∀b,r.body=some b->bl=b)(ha:∀x,r.at_=some x->x≠aA/\x.size<=4000000)
  (hI:jD w) (hds:jm) (hpr:allB jh p.root=true) (AY:p.root.size<=12) (h:FH p pv fv av rec w r):
  (r.at_=none->Calls prog 71 #[dF p pv fv av,.agg #[.string aA,hv,.bool r.body.isSome,bv]] w fun e w'=>e=.returned (.string (kE p rec r))/\Below w.heap.size w w') /\
  (∀x,r.at_=some x->Calls prog 70 #[dF p pv fv av,.agg #[.string x,hv,.bool r.body.isSome,bv]] w fun e w'=>e=.returned (.string (kE p rec r))/\Below w.heap.size w w'):=by
 constructor
 .intro hn;have hbs:=h.body hn;obtain⟨b,hbb⟩:=Option.isSome_iff_exists.1 hbs;have hdk:=h.dk hn;have hdz:=h.dz hn;have e:=hb b hbb;subst e;rw[hbb]at hdk hdz;have hv:kE p rec r=Jm p r.head bl:=by unfold kE;rw[hn,hbb];rfl
  rw[hv];exact Sj B p pv fv av aA r.body.isSome r.head bl _ bv w hP hH hBl hI hds hpr AY h.okh h.sel hdk hdz
 .intro x hx;have hx2:=ha x hx;have hv:kE p rec r=AZ p x r.body.isSome r.head (rec (r.body.getD [])):=by unfold kE;rw[hx]
  rw[hv];refine ac6 B p pv fv av x r.body.isSome r.head bl _ bv (rec (r.body.getD [])) w hP hH hBl hx2.2 h.kdh h.wz h.rsz (fun hs _ _=>?_);obtain⟨b,hbb⟩:=Option.isSome_iff_exists.1 hs;have e:=hb b hbb;subst e;rw[hbb];exact h.rok x bl hx hbb
theorem FI[bV](B:Nat)(p:aF)(pv fv av:Av)(rec:List Nd->BY)(rs:List Rule)(v:Av)(w:WD)(hP:jK B w p pv fv av)(h:SG dB 4 (fun b=>b<B) w v rs)
  (hI:jD w) (hds:jm) (hpr:allB jh p.root=true) (AY:p.root.size<=12) (hr:∀r∈rs,FH p pv fv av rec w r) (ht:total (rs.map (kE p rec))<=1099511627776):
  Calls prog 41 #[dF p pv fv av,v] w fun e w'=>e=.returned (.string (aG (rs.map (kE p rec))))/\Below w.heap.size w w':=by
 have hB:=hP.lt;have hrl:=h.len;obtain⟨a,cap,rfl⟩:=h.form;obtain⟨pa,pc,rfl⟩:=hP.props.form;obtain⟨fa,fc,rfl⟩:=hP.aJ.form;obtain⟨aa,ac,rfl⟩:=hP.ats.form;have HR:=hid hr;have HII:=hid hI;have HDS:Hid jm:=hds;have HPR:Hid (allB jh p.root=true/\p.root.size<=12):=⟨hpr,AY⟩;have HT:=hid ht;obtain⟨iS,wK⟩:=info_str;have HI:=hid wK;clear wK hr hI hds hpr AY ht;obtain⟨B0,Q0⟩:=Q6.nb p pa fa aa pc fc ac w
 have wX:=hid (hP.below B0.o hB);have HS0:=hid (h.below dB.fair B0.o hB);clear hP h;unfold dF;go_in;go_upto_region 1 with fail
 have hsz0:=B0.o.size;have hlt0:=Q0.o.lt;generalize w.alloc (.cells #[.string p.root,.slice pa p.props.length pc,.slice fa p.aJ.length fc,.slice aa p.ats.length ac,.bool p.aU,.bool p.texts] 82)=w0 at *;obtain⟨rb,zV⟩:=Nm w.heap.size;rw[zV.o]at B0 Q0 hB hlt0 hsz0⊢;go_wp2_with fail;go_loopg[5,10] rs.length (fun gg v5 v10 wr=>∃(u:Av) (i:Nat),u=v5/\v10=.int .i64 (i:Int)/\i+gg=rs.length/\Aside (wr.ownsRow w0.heap.size 9 1 u ((rs.take i).map (kE p rec)).length (((rs.take i).map (kE p rec)).map Value.string)/\Below w0.heap.size w0 wr));case atStart=>exact⟨_,0,rfl,rfl,oo,World.ownsRow_nil _ _ _ _,As⟩
 case round=>
  obtain⟨u,i,rfl,rfl,hi,hA⟩:=hrel;have O1:=hid hA.o.1;have BR:=hid hA.o.2;clear hA;have hsr:=BR.o.size;by_cases hlt:i<rs.length
  .have h1:(i:Int)<(rs.length:Int):=oo;obtain⟨g,o,rfl,hL,hcap⟩:=(HS0.o.below dB.fair BR.o oo).here (by rintro rfl;simp at hlt);obtain⟨hgB,hv,bv,bl,c0,c1,c2,c3,hhv,hbv,hbb,hat⟩:=hL.rul (i:=i) hlt;have HTK:Hid ((rs.take (i+1)).map (kE p rec)=(rs.take i).map (kE p rec)++[kE p rec rs[i]]):=by
    show _=_;rw[List.take_succ_eq_append_getElem hlt,List.map_append];rfl
   have HRR:=HR.o rs[i] (List.getElem_mem _);obtain⟨r,hr⟩:∃r,r=rs[i]:=⟨_,rfl⟩;rw[<-hr]at c0 c2 hhv hbb hat HTK HRR;have HHV:=hid hhv;have HBV:=hid hbv;have HBB:=hid hbb;have HAT:=hid hat;have HRW:=hid HRR;obtain⟨ha,hc,rfl⟩:=hhv.form;obtain⟨ba,bc,rfl⟩:=hbv.form;clear hL hr hhv hbv hbb hat HRR;have hzl:((rs.take i).map (kE p rec)).length<=i:=by rw[List.length_map,List.length_take];omega
   obtain⟨ps,KP⟩:=Nm ((rs.take i).map (kE p rec));rw[KP.o]at O1 HTK hzl;obtain⟨an,Han⟩:=Nm (r.at_.getD aA);obtain⟨hs_,Hhs⟩:=Nm r.body.isSome;rw[Han.o]at c0;rw[Hhs.o]at c2;have D2:Hid (Q4 130 (wr.alloc (.cells #[.string an,.slice ha r.head.length hc,.bool hs_,.slice ba bl.length bc] 130)) wr.heap.size (.string an) (.slice ha r.head.length hc) (.bool hs_) (.slice ba bl.length bc)):=Q4.new _ _ _ _ _ _;have X2:Hid (Below wr.heap.size wr (wr.alloc (.cells #[.string an,.slice ha r.head.length hc,.bool hs_,.slice ba bl.length bc] 130))):=As.alloc nl _;go_upto_region 5 with fail
   generalize wr.alloc (.cells #[.string an,.slice ha r.head.length hc,.bool hs_,.slice ba bl.length bc] 130)=w2 at *;obtain⟨gt,mV⟩:=Nm wr.heap.size;have D3:Hid (Q4 130 w2 gt (.string an) (.slice ha r.head.length hc) (.bool hs_) (.slice ba bl.length bc)):=by rw[<-mV.o];exact D2.o
   rw[mV.o];clear D2 c0 c1 c2 c3;have B2:=hid (BR.o.trans (X2.o.mono hsr));have BW:=hid (B0.o.trans (B2.o.mono hsz0));have hs2:=X2.o.size;have O2:Hid (w2.ownsRow w0.heap.size 9 1 u ps.length (ps.map Value.string)):=aP O1.o fun r hr=>X2.o.block r (O1.o.lt r hr).2;obtain⟨a0,a1,a2,a3⟩:=D3.o.cs;have Q2:=Q0.o.below B2.o oo;obtain⟨q0,q1,q2,q3,q4,q5⟩:=Q2.cs;clear Q2;have CC:=WL B p (.slice pa p.props.length pc) (.slice fa p.aJ.length fc) (.slice aa p.ats.length ac) rec r (.slice ha r.head.length hc) (.slice ba bl.length bc) bl w2 (wX.o.below B2.o oo) (HHV.o.below X2.o oo) (HBV.o.below X2.o oo) HBB.o HAT.o (HII.o.below (by rw[zV.o];exact BW.o) nl) HDS.o HPR.o.1 HPR.o.2 (HRW.o.later (by rw[zV.o];exact BW.o));rw[Hhs.o]at CC;obtain⟨y,Hy⟩:=Nm (kE p rec r);rw[Hy.o]at CC HTK;unfold dF at CC
   have FIN:Hid (∀(v6:Av) (w6:WD),w6.ownsRow w0.heap.size 9 1 v6 (ps.length+1) (ps.map Value.string++[.string y])->w6.ownsRow w0.heap.size 9 1 v6 ((rs.take (i+1)).map (kE p rec)).length (((rs.take (i+1)).map (kE p rec)).map Value.string)):=by intro v6 w6 h6;rw[HTK.o,List.length_append,List.map_append];exact h6
   cases hra:r.at_ with
   |none=>
    have he:an=aA:=by rw[<-Han.o,hra];rfl
    subst he;have CK:=hid (CC.1 hra);have ac7:aA.toList=[]:=by rw[fC];rfl
    have hie:(aA.toList==[])=true:=by rw[ac7];rfl
    have amO:aA.toList.isEmpty=true:=by rw[ac7];rfl
    clear CC hra;go_wp2_with fail;refine CK.o.mono ?_;rintro e w5 ⟨rfl,hb5⟩;have B5:=hid (B2.o.trans (hb5.mono oo));have O5:Hid (w5.ownsRow w0.heap.size 9 1 u ps.length (ps.map Value.string)):=aP O2.o fun r hr=>hb5.block r (O2.o.lt r hr).2;have hs5:=B5.o.size;clear hb5 CK a0 a1 a2 a3 q0 q1 q2 q3 q4 q5;go_wp2_with(at_builtin;go_must(refine wpList_append_own _ rfl _ _ 26 rfl w0.heap.size 9 iS (.string ⟨#[]⟩) 1 16 Tryz.underlying26 HI.o.1 HI.o.2.1 HI.o.2.2.1 HI.o.2.2.2 rfl oo u ps.length (ps.map Value.string) rfl (O5.o.alloc _) ⟨w5.heap.size,0,none⟩ 1 1 [.string y] rfl rfl (cell_one_new _ _ _) (aT _) Ao oo Al ?_));intro v6 w6 hown6 lS _;have O6:Hid (w6.ownsRow w0.heap.size 9 1 v6 ((rs.take (i+1)).map (kE p rec)).length (((rs.take (i+1)).map (kE p rec)).map Value.string)):=FIN.o _ _ hown6
    have B6:Hid (Below w0.heap.size w0 w6):=(B5.o.alloc hs5 _).grown lS Al (fun rr hr=>(O5.o.lt rr hr).1);clear hown6 lS;go_wp2_with fail;go_roundg(gk-1);case measure=>omega
    case rel=>exact⟨v6,i+1,rfl,by congr 1,oo,O6.o,B6.o⟩
   |some x=>
    have he:an=x:=by rw[<-Han.o,hra];rfl
    subst he;have CK:Hid (Calls prog 70 #[.agg #[.string p.root,.slice pa p.props.length pc,.slice fa p.aJ.length fc,.slice aa p.ats.length ac,.bool p.aU,.bool p.texts],.agg #[.string an,.slice ha r.head.length hc,.bool hs_,.slice ba bl.length bc]] w2 fun e w'=>e=.returned (.string y)/\Below w2.heap.size w2 w'):=CC.2 _ hra;have hne:=(HAT.o _ hra).1;have ac7:¬an.toList=[]:=fun e=>hne (by have:=ay an [];rw[e]at this;exact of_decide_eq_true this.symm);have hie:(an.toList==[])=false:=by cases hq:an.toList with|nil=>exact absurd hq ac7|cons _ _=>rfl
    have amO:an.toList.isEmpty=false:=by cases hq:an.toList with|nil=>exact absurd hq ac7|cons _ _=>rfl
    clear CC hra hne;go_wp2_with fail;refine CK.o.mono ?_;rintro e w5 ⟨rfl,hb5⟩;have B5:=hid (B2.o.trans (hb5.mono oo));have O5:Hid (w5.ownsRow w0.heap.size 9 1 u ps.length (ps.map Value.string)):=aP O2.o fun r hr=>hb5.block r (O2.o.lt r hr).2;have hs5:=B5.o.size;clear hb5 CK a0 a1 a2 a3 q0 q1 q2 q3 q4 q5;go_wp2_with(at_builtin;go_must(refine wpList_append_own _ rfl _ _ 26 rfl w0.heap.size 9 iS (.string ⟨#[]⟩) 1 16 Tryz.underlying26 HI.o.1 HI.o.2.1 HI.o.2.2.1 HI.o.2.2.2 rfl oo u ps.length (ps.map Value.string) rfl (O5.o.alloc _) ⟨w5.heap.size,0,none⟩ 1 1 [.string y] rfl rfl (cell_one_new _ _ _) (aT _) Ao oo Al ?_));intro v6 w6 hown6 lS _;have O6:Hid (w6.ownsRow w0.heap.size 9 1 v6 ((rs.take (i+1)).map (kE p rec)).length (((rs.take (i+1)).map (kE p rec)).map Value.string)):=FIN.o _ _ hown6
    have B6:Hid (Below w0.heap.size w0 w6):=(B5.o.alloc hs5 _).grown lS Al (fun rr hr=>(O5.o.lt rr hr).1);clear hown6 lS;go_wp2_with fail;go_roundg(gk-1);case measure=>omega
    case rel=>exact⟨v6,i+1,rfl,by congr 1,oo,O6.o,B6.o⟩
  .have h1:(rs.length:Int)<=(i:Int):=oo;have O5:Hid (wr.ownsRow w0.heap.size 9 1 u (rs.map (kE p rec)).length ((rs.map (kE p rec)).map Value.string)):=by
    have:=O1.o;rw[List.take_of_length_le oo]at this;exact this
   have hpl:(rs.map (kE p rec)).length=rs.length:=List.length_map _;obtain⟨ps,KP⟩:=Nm (rs.map (kE p rec));rw[KP.o]at O5 HT hpl;go_wp2_with fail;refine pmb (dQ ps w0.heap.size u _ O5.o oo HT.o) fun w5 hb5=>?_;have B5:=hid (B0.o.trans ((BR.o.trans (hb5.mono hsr)).mono hsz0));clear hb5;go_wp2_with fail;go_ret;exact⟨mg (by rw[<-KP.o]),by rw[zV.o];exact B5.o⟩
structure uz(z:Nat)(t:Tok):Prop where
 word:t.word.size<=z
 unit:t.unit.size<=z
 kind:Qj t=true
theorem uz.k(z:Nat){n:Int}(h:1<=n/\n<=15):uz z (Tok.k n):=⟨by simp[Tok.k],by simp[Tok.k],by simp[Qj,Tok.k,h.1,h.2]⟩
theorem uz.w{z:Nat}{n:Int}{x:BY}(h:1<=n/\n<=15)(hx:x.size<=z):uz z (Tok.w n x):=⟨hx,by simp[Tok.w],by simp[Qj,Tok.w,h.1,h.2]⟩
theorem Jo{t:Tok}{n:Int}(h:t.kind=n)(h1:1<=n/\n<=15):Qj t=true:=by unfold Qj;rw[h];simp[h1.1,h1.2]
theorem aaF{s:BY}{i:Nat}(hi:i<s.size)(h:iO s i=true):uz s.size (numeric s i).1:=by
 have h1:=yY h;have h2:=yX (s:=s) (i:=i) oo;have hz:(s.extract i (bT s i)).size=bT s i-i:=by simp;omega
 unfold numeric;simp only;by_cases h37:pk s (bT s i)=37
 .rw[if_pos h37];exact uz.w oo (by rw[hz];omega)
 rw[if_neg h37];by_cases hb:iG s (bT s i)=true
 .rw[if_pos hb];have hn:=sO s (bT s i);exact⟨by rw[hz];omega,hn,Jo (n:=7) rfl oo⟩
 .rw[if_neg hb];exact uz.w oo (by rw[hz];omega)
theorem agw{s:BY}{i:Nat}:uz s.size (named s i).1:=by
 have hn:=sO s i;unfold named;simp only;split
 .split
  .have h1:=vI s s.size (blk s ((name s i).2+1)) ByteArray.empty;have h2:=mQ s s.size (blk s ((name s i).2+1)) ByteArray.empty;simp at h1;unfold link;refine⟨oo,by rw[h2.2];simp,?_⟩;rcases h2.1 with e|e
   .exact Jo e oo
   .exact Jo e oo
  .exact uz.w oo hn
 .exact uz.w oo hn
theorem agx{s:BY}{i:Nat}(hi:i<s.size):uz s.size (token s i).1:=by
 unfold token;split
 .exact uz.k _ oo
 split
 .have h1:=qK s (pk s i) s.size (i+1) ByteArray.empty;have h2:=lu s (pk s i) s.size (i+1) ByteArray.empty;simp at h1;unfold txt;refine⟨oo,by rw[h2.2];simp,?_⟩;rcases h2.1 with e|e
  .exact Jo e oo
  .exact Jo e oo
 split
 .exact uz.w oo (sO s _)
 split
 .exact aaF hi ‹_›
 split
 .exact uz.k _ oo
 split
 .exact uz.k _ oo
 split
 .exact uz.w oo (sO s _)
 split
 .exact agw
 .have:=iQ hi;exact uz.w oo oo
theorem ac8{s:BY}:∀f i,i<=s.size->∀t∈tokF s f i,uz s.size t
 |0,_,_,t,h=>by simp[tokF]at h
 |f+1,i,hi,t,h=>by
  unfold tokF at h;by_cases h0:s.size<=i
  .rw[if_pos h0]at h;simp at h
  .rw[if_neg h0]at h;rcases List.mem_cons.1 h with e|e
   .rw[e];exact agx oo
   .exact ac8 f _ (Af (xB oo)) t e
theorem ac9(s:BY):∀f i,(tokF s f i).length<=f
 |0,_=>by simp[tokF]
 |f+1,i=>by
  unfold tokF;split
  .simp
  .have:=ac9 s f (com s (token s i).2);simp only[List.length_cons];omega
theorem ada(s:BY):∀t∈toks s,uz s.size t:=ac8 _ _ (Af (Nat.zero_le _))
theorem WM(s:BY):(toks s).length<=s.size:=ac9 _ _ _
mutual
def gN:Nd->Prop
 |.mk t k=>dI t/\Qj t=true/\(closing t=aA->k=[])/\gL k
def gL:List Nd->Prop
 |[]=>True
 |n::r=>gN n/\gL r
end
theorem Ba(n:Nd):gN n↔dI n.t/\Qj n.t=true/\(closing n.t=aA->n.kids=[])/\gL n.kids:=by cases n;simp[gN]
theorem yh:∀(l:List Nd),gL l↔∀n∈l,gN n
 |[]=>by simp[gL]
 |m::r=>by simp[gL,yh r]
theorem qw{a b:List Nd}(h:gL b)(hs:∀n∈a,n∈b):gL a:=(yh a).2 fun n hn=>(yh b).1 h n (hs n hn)
mutual
theorem alu:∀(n:Nd),gN n->okN n
 |.mk t k,h=>by simp only[gN]at h;simp only[okN];exact⟨h.1,Sm k h.2.2.2⟩
theorem Sm:∀(l:List Nd),gL l->gu l
 |[],_=>by simp[gu]
 |n::r,h=>by simp only[gL]at h;exact⟨alu n h.1,Sm r h.2⟩
end
mutual
theorem alv:∀(n:Nd),gN n->Qz (fun t=>!Qj t) n=false
 |.mk t k,h=>by simp only[gN]at h;unfold Qz;rw[WO k h.2.2.2,h.2.1];rfl
theorem WO:∀(l:List Nd),gL l->jg (fun t=>!Qj t) l=false
 |[],_=>by unfold jg;rfl
 |n::r,h=>by simp only[gL]at h;unfold jg;rw[alv n h.1,WO r h.2];rfl
end
theorem aio{l:List Nd}(h:gL l):OJ l:=WO l h
theorem ajt(n:Nat):∀(e:BY) (ts:List Tok),ts.length<=n->(∀t∈ts,dI t/\Qj t=true)->gL (kids e ts).1:=by
 induction n with
 |zero=>intro e ts h _;obtain rfl:ts=[]:=List.eq_nil_of_length_eq_zero oo;simp[jB,gL]
 |succ n ih=>
  intro e ts h hok;cases ts with
  |nil=>simp[jB,gL]
  |cons t r=>
   simp only[List.length_cons]at h;by_cases hc:e≠aA/\au t e=true
   .simp[qX hc,gL]
   .rw[iy hc];have hr:∀t∈r,dI t/\Qj t=true:=fun x hx=>hok x (by simp[hx]);have hl:=qW t r;obtain⟨k,hk,hk2⟩:=Fb t r;have h1:gL (inside t r).1:=by
     unfold inside;split
     .simp[gL]
     .exact ih _ r oo hr
    have h3:closing t=aA->(inside t r).1=[]:=by intro e;unfold inside;rw[if_pos e]
    have h2:gL (kids e (inside t r).2).1:=ih e _ oo fun x hx=>hr x (by rw[hk2]at hx;exact List.mem_of_mem_drop hx);have h0:=hok t Aa;simp only[gL,gN];exact⟨⟨h0.1,h0.2,h3,h1⟩,h2⟩
def twz:List Tok->Nat
 |[]=>0
 |t::r=>4*t.word.size+4*t.unit.size+16+twz r
theorem aip{z:Nat}:∀(ts:List Tok),(∀t∈ts,uz z t)->twz ts<=ts.length*(8*z+16)
 |[],_=>by simp[twz]
 |t::r,h=>by have ih:=aip r fun x hx=>h x (by simp[hx]);have h0:=h t Aa;have:=h0.word;have:=h0.unit;simp only[twz,List.length_cons,Nat.add_mul,Nat.one_mul];omega
theorem agy(n:Nat):∀(e:BY) (ts:List Tok),ts.length<=n->dL (kids e ts).1+twz (kids e ts).2<=twz ts:=by
 induction n with
 |zero=>intro e ts h;obtain rfl:ts=[]:=List.eq_nil_of_length_eq_zero oo;simp[jB,dL,twz]
 |succ n ih=>
  intro e ts h;cases ts with
  |nil=>simp[jB,dL,twz]
  |cons t r=>
   simp only[List.length_cons]at h;by_cases hc:e≠aA/\au t e=true
   .rw[qX hc];simp only[dL,twz];omega
   .rw[iy hc];have hl:=qW t r;have h1:dL (inside t r).1+twz (inside t r).2<=twz r:=by
     unfold inside;split
     .simp[dL]
     .exact ih _ r oo
    have h2:=ih e (inside t r).2 oo;simp only[dL,Cc,twz];omega
theorem Di{s:BY}(hs:s.size<=600):gL (bH s)/\dL (bH s)<=4000000:=by have hc:=oZ s;have h1:∀t∈toks (clean s),dI t/\Qj t=true:=fun t ht=>⟨Oz oo t ht,(ada _ t ht).kind⟩;refine⟨ajt _ _ _ nl h1,?_⟩;have h2:=agy _ aA (toks (clean s)) nl;have h3:=aip (z:=600) (toks (clean s)) (fun t ht=>by have:=ada _ t ht;exact⟨by have:=this.word;omega,by have:=this.unit;omega,this.kind⟩);have h4:=WM (clean s);have h5:(toks (clean s)).length*(8*600+16)<=600*4816:=Nat.mul_le_mul oo oo;unfold bH nodes;omega
theorem gY(n:Nd):Cc n=4*n.t.word.size+4*n.t.unit.size+16+dL n.kids:=by obtain⟨t,k⟩:=n;unfold Cc;rfl
theorem bW(n:Nd)(r:List Nd):dL (n::r)=Cc n+dL r:=by conv=>lhs;unfold dL
theorem lG:dL []=0:=by unfold dL;rfl
theorem vY:∀(a b:List Nd),dL (a++b)=dL a+dL b
 |[],b=>by simp[dL]
 |n::r,b=>by rw[List.cons_append,bW,bW,vY r b];omega
theorem OL:∀(a:List Nd),dL a.reverse=dL a
 |[]=>rfl
 |n::r=>by rw[List.reverse_cons,vY,OL r,bW,bW,lG];omega
theorem uD:∀(l:List Nd),dL (aH l)<=dL l
 |[]=>by unfold aH;exact Nat.le_refl _
 |n::r=>by
  unfold aH;split
  .have:=uD r;rw[bW];omega
  .exact Nat.le_refl _
theorem kU(l:List Nd):dL (bare l)<=dL l:=by unfold bare lJ;rw[OL];have h1:=uD (aH l).reverse;have h2:=uD l;rw[OL]at h1;omega
theorem ku:∀(l:List Nd) (n:Nd),n∈aH l->n∈l
 |[],n,h=>h
 |m::r,n,h=>by
  unfold aH at h;split at h
  .exact List.mem_cons_of_mem _ (ku r n h)
  .exact h
theorem nP(l:List Nd)(n:Nd)(h:n∈bare l):n∈l:=by unfold bare lJ at h;rw[List.mem_reverse]at h;exact ku _ _ (List.mem_reverse.1 (ku _ _ h))
theorem Jp(st:Nd->Bool):∀(l:List Nd),dL (bG st l).1+(match (bG st l).2.1 with|none=>0|some b=>Cc b)+dL (bG st l).2.2<=dL l
 |[]=>by simp[bG,dL]
 |n::r=>by
  unfold bG;split
  .simp only[lG,bW];omega
  .have:=Jp st r;simp only[bW];omega
theorem yj(st:Nd->Bool):∀(l:List Nd) (m:Nd),m∈(bG st l).1->m∈l
 |[],m,h=>by simp[bG]at h
 |n::r,m,h=>by
  unfold bG at h;split at h
  .simp at h
  .rcases List.mem_cons.1 h with e|e
   .simp[e]
   .exact List.mem_cons_of_mem _ (yj st r m e)
theorem Jq(st:Nd->Bool):∀(l:List Nd) (b:Nd),(bG st l).2.1=some b->b∈l
 |[],b,h=>by simp[bG]at h
 |n::r,b,h=>by
  unfold bG at h;split at h
  .simp at h;simp[h]
  .exact List.mem_cons_of_mem _ (Jq st r b h)
theorem nR(st:Nd->Bool):∀(l:List Nd) (m:Nd),m∈(bG st l).2.2->m∈l
 |[],m,h=>by simp[bG]at h
 |n::r,m,h=>by
  unfold bG at h;split at h
  .exact List.mem_cons_of_mem _ h
  .exact List.mem_cons_of_mem _ (nR st r m h)
theorem Nq(w:BY):(jM w).size=w.size:=by
 unfold jM;split
 .rfl
 .exact jE w
theorem Dj(l:List Nd):dL l.dropLast<=dL l:=by
 rcases Yr l with rfl|⟨i,x,rfl⟩
 .exact Nat.le_refl _
 .rw[List.dropLast_concat,vY];omega
theorem aaG(v:List Nd):dL (gW v).1<=dL v:=by
 unfold gW;split
 .exact Nat.le_refl _
 .split
  .split
   .exact Nat.le_refl _
   .split
    .have h1:=kU (bare v.dropLast).dropLast;have h2:=Dj (bare v.dropLast);have h3:=kU v.dropLast;have h4:=Dj v;show dL (bare (bare v.dropLast).dropLast)<=_;omega
    .exact Nat.le_refl _
  .exact Nat.le_refl _
theorem WQ(v:List Nd)(n:Nd)(h:n∈(gW v).1):n∈v:=by
 unfold gW at h;split at h
 .exact h
 .split at h
  .split at h
   .exact h
   .split at h
    .exact List.dropLast_subset _ (nP _ _ (List.dropLast_subset _ (nP _ _ h)))
    .exact h
  .exact h
theorem adb{l:List Nd}{d:Dec}(h:iI l=some d):dz d<=dL l/\∀n∈d.val,n∈l:=by
 unfold iI at h;split at h
 .cases h
 .rename_i n r;split at h
  .cases h
  .split at h
   .cases h
   .rename_i c q hq;split at h
    .cases h;have h1:=aaG (bare q);have h2:=kU q;have h3:=kU r;rw[hq,bW,gY c]at h3;refine⟨?_,fun m hm=>?_⟩
     .unfold dz;simp only[Nq];rw[bW,gY n];omega
     .have:=nP _ _ (WQ _ _ hm);exact List.mem_cons_of_mem _ (nP r m (by rw[hq];exact List.mem_cons_of_mem _ this))
    .cases h
theorem Dk:∀(f:Nat) (l:List Nd),Qk (fF f l)<=dL l/\∀d∈fF f l,∀n∈d.val,n∈l
 |0,l=>by simp[fF,Qk]
 |f+1,[]=>by simp[fF,Qk]
 |f+1,n::r=>by
  unfold fF;split
  .have ih:=Dk f r;rw[bW];exact⟨oo,fun d hd m hm=>List.mem_cons_of_mem _ (ih.2 d hd m hm)⟩
  split
  .have ih:=Dk f (bG (fun m=>aS m||aK m) r).2.2;have h1:=Jp (fun m=>aS m||aK m) r;rw[bW];exact⟨oo,fun d hd m hm=>List.mem_cons_of_mem _ (nR _ _ _ (ih.2 d hd m hm))⟩
  .have ih:=Dk f (bG aS (n::r)).2.2;have h1:=Jp aS (n::r);have h2:∀d∈fF f (bG aS (n::r)).2.2,∀m∈d.val,m∈n::r:=fun d hd m hm=>nR _ _ _ (ih.2 d hd m hm);simp only;split
   .exact⟨oo,h2⟩
   .rename_i d0 hd0;have h3:=adb hd0;refine⟨by simp only[Qk];omega,fun d hd m hm=>?_⟩;rcases List.mem_cons.1 hd with e|e
    .subst e;exact yj _ _ _ (h3.2 m hm)
    .exact h2 d e m hm
theorem Dl(l:List Nd):Qk (decls l)<=dL l/\∀d∈decls l,∀n∈d.val,n∈l:=Dk _ l
def rwz(r:Rule):Nat:=4*(r.at_.getD aA).size+16+dL r.head+dL (r.body.getD [])
def Dp:List Rule->Nat
 |[]=>0
 |r::q=>rwz r+Dp q
theorem YP:∀(l:List Rule) (r:Rule),r∈l->rwz r<=Dp l
 |m::r,n,h=>by
  unfold Dp;rcases List.mem_cons.1 h with e|e
  .subst e;omega
  .have:=YP r n e;omega
structure aaH(l:List Nd)(r:Rule):Prop where
 head:∀n∈r.head,n∈l
 body:∀b,r.body=some b->∃n∈l,aK n=true/\b=n.kids
 sty:r.at_=none->r.body.isSome=true
theorem aaH.wide{l l':List Nd}{r:Rule}(h:aaH l r)(hs:∀n∈l,n∈l'):aaH l' r:=⟨fun n hn=>hs n (h.head n hn),fun b hb=>by obtain⟨n,h1,h2⟩:=h.body b hb;exact⟨n,hs n h1,h2⟩,h.sty⟩
theorem Dq(sh:Bool):∀(f:Nat) (l:List Nd),Dp (fM f sh l)<=dL l/\∀r∈fM f sh l,aaH l r
 |0,l=>by simp[fM,Dp]
 |f+1,[]=>by simp[fM,Dp]
 |f+1,n::r=>by
  unfold fM;split
  .have ih:=Dq sh f r;rw[bW];exact⟨oo,fun d hd=>(ih.2 d hd).wide fun m hm=>List.mem_cons_of_mem _ hm⟩
  split
  .have ih:=Dq sh f (bG (fun m=>aS m||aK m) r).2.2;have h1:=Jp (fun m=>aS m||aK m) r;have h2:=Jq (fun m=>aS m||aK m) r;have hb:dL ((gV (bG (fun m=>aS m||aK m) r).2.1).getD [])<=(match (bG (fun m=>aS m||aK m) r).2.1 with|none=>0|some b=>Cc b):=by
    cases(bG (fun m=>aS m||aK m) r).2.1 with
    |none=>simp[gV,dL]
    |some b=>
     show dL ((if aK b=true then some b.kids else none).getD [])<=Cc b;by_cases hq:aK b=true
     .rw[if_pos hq,gY];show dL b.kids<=_;omega
     .rw[if_neg hq];show dL []<=_;rw[lG];exact Nat.zero_le _
   simp only;refine⟨?_,fun d hd=>?_⟩
   .unfold Dp rwz;simp only[Option.getD_some];rw[bW,gY n];omega
   .rcases List.mem_cons.1 hd with e|e
    .subst e;refine⟨fun m hm=>List.mem_cons_of_mem _ (yj _ _ _ hm),fun b hbb=>?_,fun h=>by cases h⟩;simp only at hbb;cases hc:(bG (fun m=>aS m||aK m) r).2.1 with
     |none=>rw[hc]at hbb;simp[gV]at hbb
     |some q=>
      rw[hc]at hbb;have agz:(if aK q=true then some q.kids else none)=some b:=hbb;by_cases hq:aK q=true
      .rw[if_pos hq]at agz;cases agz;exact⟨q,List.mem_cons_of_mem _ (h2 q hc),hq,rfl⟩
      .rw[if_neg hq]at agz;cases agz
    .exact(ih.2 d e).wide fun m hm=>List.mem_cons_of_mem _ (nR _ _ _ hm)
  .have h1:=Jp aK (n::r);have h2:=Jq aK (n::r);have h3:=vP aK (n::r);simp only;split
   .simp[Dp]
   .rename_i b hc;have ih:=Dq sh f (bG aK (n::r)).2.2;rw[hc]at h1;simp only at h1;refine⟨?_,fun d hd=>?_⟩
    .unfold Dp rwz;simp only[Option.getD_some,Option.getD_none];have e:aA.size=0:=rfl;rw[gY]at h1;rw[e];omega
    .rcases List.mem_cons.1 hd with e|e
     .subst e;refine⟨fun m hm=>yj _ _ _ hm,fun q hq=>?_,fun _=>rfl⟩;cases hq;exact⟨b,h2 b hc,h3 b hc,rfl⟩
     .exact(ih.2 d e).wide fun m hm=>nR _ _ _ hm
theorem pO(sh:Bool)(l:List Nd):Dp (rules sh l)<=dL l/\∀r∈rules sh l,aaH l r:=Dq sh _ l
theorem aju{l b:List Nd}{r:Rule}(h:aaH l r)(hg:gL l)(hb:r.body=some b):gL b/\depth b+1<=depth l:=by
 obtain⟨n,h1,h2,rfl⟩:=h.body b hb;have h3:=(Ba n).1 ((yh l).1 hg n h1);have h4:=Ai l n h1;have h5:¬closing n.t=aA:=by unfold aK dN au at h2;simp only[Bool.and_eq_true,decide_eq_true_eq]at h2;unfold closing;rw[if_neg (by rw[h2.1];omega),if_pos h2.1,h2.2];decide
 rw[xE h5]at h4;exact⟨h3.2.2.2,h4⟩
end Go.Proofs.YtlliliddljkbfaaGreat
namespace Go.Proofs.YtlliliddljkbfaaGreat.Sp
section
mutual
def ddS:Simple->Nat->Prop
 |.mk k nm _ _ l _,D=>(k=91->1<=D)/\((k≠116/\k≠35/\k≠46/\k≠91)->((nm=nD\/nm=DY)->1<=D/\TW l (D-1))/\(nm=nG->1<=D))
def L8:List Simple->Nat->Prop
 |[],_=>True
 |s::r,D=>ddS s D/\L8 r D
def ddT:Nat×List Simple->Nat->Prop
 |(_,all),D=>L8 all D
def ddC:List (Nat×List Simple)->Nat->Prop
 |[],_=>True
 |t::r,D=>ddT t D/\ddC r D
def TW:List (List (Nat×List Simple))->Nat->Prop
 |[],_=>True
 |c::r,D=>ddC c D/\TW r D
end
theorem J3(D:Nat):∀(a b:List Simple),L8 a D->L8 b D->L8 (a++b) D
 |[],_,_,h=>h
 |s::r,b,h,k=>by simp only[L8]at h;rw[List.cons_append];simp only[L8];exact⟨h.1,J3 D r b h.2 k⟩
theorem J5{D k:Nat}{w:BY}(h:k=116\/k=35\/k=46):ddS (Simple.of k w) D:=by unfold Simple.of;simp only[ddS];exact⟨fun e=>by omega,fun e=>by omega⟩
theorem uK{D:Nat}{a:List Simple}{s:Simple}(h:L8 a D)(k:ddS s D):L8 (a++[s]) D:=J3 D a [s] h (by simp only[L8];exact⟨k,trivial⟩)
theorem dU(n:Nd)(r:List Nd):depth (n::r)=max (eU n) (depth r):=by rw[depth]
theorem NG(n:Nd):eU n=if closing n.t=aA then 0 else depth n.kids+1:=by obtain⟨t,k⟩:=n;rw[eU];rfl
theorem mG{D:Nat}{l:List Nd}(h:depth l<=D):∀n∈l,eU n<=D:=by
 induction l with
 |nil=>simp
 |cons m r ih=>
  rw[dU]at h;intro n hn;rcases List.mem_cons.1 hn with rfl|hn
  .omega
  .exact ih oo n hn
theorem qh{D:Nat}{l:List Nd}(h:∀n∈l,eU n<=D):depth l<=D:=by
 induction l with
 |nil=>simp[depth]
 |cons m r ih=>rw[dU];have h1:=h m Aa;have h2:=ih fun n hn=>h n (by simp[hn]);omega
theorem TY{n:Nd}(h:dN n (b1 91)=true):1<=eU n:=by
 unfold dN au at h;simp only[Bool.and_eq_true,decide_eq_true_eq]at h;rw[NG];have hc:closing n.t≠aA:=by unfold closing;rw[if_neg oo,if_pos h.1,h.2,if_neg (by decide),if_pos rfl];decide
 rw[if_neg hc];omega
theorem abb{n:Nd}(h:n.t.kind=11):eU n=depth n.kids+1:=by
 rw[NG];have hc:closing n.t≠aA:=by unfold closing;rw[if_pos h];decide
 rw[if_neg hc]
theorem ael{l:List Nd}{s:Simple}(h:gG l=some s):∃nm how v,s=.mk 91 nm how v [] 0:=by
 unfold gG at h;split at h
 .cases h
 .split at h
  .cases h
  .simp only at h;split at h
   .cases h;exact⟨_,_,_,rfl⟩
   .split at h
    .cases h
    .split at h
     .cases h
     .split at h
      .split at h
       .cases h;exact⟨_,_,_,rfl⟩
       .cases h
      .cases h
theorem Ua{D:Nat}{l:List Nd}{s:Simple}(h:gG l=some s)(hD:1<=D):ddS s D:=by obtain⟨nm,how,v,rfl⟩:=ael h;simp only[ddS];exact⟨fun _=>hD,fun e=>by omega⟩
section
variable {rec:List Nd->Option bY} (hrec : ∀ l ss D,rec l=some ss->depth l<=D->TW ss D)
include hrec
theorem abd{D:Nat}{n:Nd}{s:Simple}(h:bM rec n=some s)(hD:eU n<=D):ddS s D:=by
 unfold bM at h;simp only at h;split at h
 .split at h
  .rename_i hw;cases h;unfold Simple.of;simp only[ddS];refine⟨fun e=>by omega,fun _=>⟨fun e=>?_,fun e=>?_⟩⟩
   .exfalso
    rcases hw with hw|hw|hw|hw<;>rw[hw]at e<;>revert e<;>decide
   .exfalso
    rcases hw with hw|hw|hw|hw<;>rw[hw]at e<;>revert e<;>decide
  .cases h
 split at h
 .cases h
 rename_i hk;have hf:=abb (n:=n) (by simpa using hk);split at h
 .cases hr:rec n.kids with
  |none=>rw[hr]at h;cases h
  |some ss=>rw[hr]at h;simp at h;subst h;simp only[ddS];exact⟨fun e=>by omega,fun _=>⟨fun _=>⟨oo,hrec _ _ _ hr oo⟩,fun _=>by omega⟩⟩
 split at h
 .split at h
  .rename_i v hv;cases hp:placeOf v.t with
   |none=>rw[hp]at h;cases h
   |some pl=>rw[hp]at h;simp at h;subst h;simp only[ddS];exact⟨fun e=>by omega,fun _=>⟨fun _=>⟨oo,trivial⟩,fun _=>by omega⟩⟩
  .cases h
 .cases h
theorem aem(D:Nat)(n:Nat):∀(acc:List Simple) (l:List Nd) (all:List Simple) (r:List Nd),l.length<=n->depth l<=D->L8 acc D->bZ rec acc l=some (all,r)->L8 all D/\depth r<=D:=by
 induction n with
 |zero=>intro acc l all r hl hn ha h;obtain rfl:l=[]:=List.eq_nil_of_length_eq_zero oo;simp[bZ]at h;obtain⟨rfl,rfl⟩:=h;exact⟨ha,hn⟩
 |succ n ih=>
  intro acc l all r hl hn ha h;match l,hl,hn,h with
  |[],_,hn,h=>simp[bZ]at h;obtain⟨rfl,rfl⟩:=h;exact⟨ha,hn⟩
  |[m],_,hn,h=>
   have hm:=mG hn m Aa;unfold bZ at h;split at h
   .cases h;exact⟨uK ha (J5 oo),by simp[depth]⟩
   split at h
   .cases h
   split at h
   .rename_i hb;split at h
    .cases h
    .rename_i s hs;have:=TY hb;cases h;exact⟨uK ha (Ua hs oo),by simp[depth]⟩
   split at h
   .cases h
   .cases h;exact⟨ha,hn⟩
  |m::q::r',hl,hn,h=>
   simp only[List.length_cons]at hl;have hm:=mG hn m Aa;have hq:=mG hn q Aa;have h1:depth (q::r')<=D:=by rw[dU]at hn;omega
   have h2:depth r'<=D:=by rw[dU]at h1;omega
   unfold bZ at h;split at h
   .exact ih _ _ _ _ Al h1 (uK ha (J5 oo)) h
   split at h
   .split at h
    .exact ih _ _ _ _ oo h2 (uK ha (J5 oo)) h
    .cases h
   split at h
   .rename_i hb;split at h
    .cases h
    .rename_i s hs;have:=TY hb;exact ih _ _ _ _ Al h1 (uK ha (Ua hs oo)) h
   split at h
   .split at h
    .cases h
    .rename_i s hs;exact ih _ _ _ _ oo h2 (uK ha (abd hrec hs hq)) h
   .cases h;exact⟨ha,hn⟩
theorem Ub{D:Nat}{l:List Nd}{all:List Simple}{r:List Nd}(hn:depth l<=D)(h:aZ rec l=some (all,r)):L8 all D/\depth r<=D:=by
 unfold aZ at h;have ht:depth (kP l).2<=D/\L8 (kP l).1 D:=by
  unfold kP;split
  .exact⟨by simp[depth],by simp[L8]⟩
  .rename_i m q;have hq:depth q<=D:=by rw[dU]at hn;omega
   split
   .exact⟨hq,by simp only[L8];exact⟨J5 oo,trivial⟩⟩
   split
   .exact⟨hq,by simp only[L8];exact⟨J5 oo,trivial⟩⟩
   .exact⟨hn,by simp[L8]⟩
 exact aem hrec D _ _ _ _ _ nl ht.1 ht.2 h
omit hrec in
theorem ahm{D:Nat}{l r:List Nd}{c:Nat}(hn:depth l<=D)(h:gU l=some (c,r)):depth r<=D:=by
 have hs:∀x∈r,x∈l:=by
  unfold gU at h;split at h
  .split at h
   .cases h
   .cases h;simp
  .rename_i n q hq;have h1:∀x∈n::q,x∈l:=fun x hx=>ku l x (by rw[hq];exact hx);have h2:∀x∈aH q,x∈l:=fun x hx=>h1 x (List.mem_cons_of_mem _ (ku q x hx));split at h
   .cases h;exact h2
   split at h
   .cases h;exact h2
   split at h
   .cases h;exact h2
   split at h
   .cases h;exact h1
   .cases h
 exact qh fun n hn'=>mG hn n (hs n hn')
theorem J6{D:Nat}:∀(f b:Nat) (l:List Nd) (ss:List Step),depth l<=D->bD rec f b l=some ss->ddC ss D
 |0,_,_,_,_,h=>by simp[bD]at h
 |f+1,b,l,ss,hn,h=>by
  unfold bD at h;split at h
  .cases h
  .rename_i all r hc;have h1:=Ub hrec hn hc;split at h
   .cases h
   .split at h
    .cases h;simp only[ddC,ddT];exact⟨h1.1,trivial⟩
    .split at h
     .cases h
     .rename_i c r' hcb;have h2:=ahm h1.2 hcb;cases hx:bD rec f c r' with
      |none=>rw[hx]at h;cases h
      |some x=>rw[hx]at h;simp at h;subst h;simp only[ddC,ddT];exact⟨h1.1,J6 f c r' x h2 hx⟩
theorem Zg{D:Nat}:∀(ps:List (List Nd)) (ss:bY),(∀p∈ps,depth p<=D)->fZ rec ps=some ss->TW ss D
 |[],ss,_,h=>by simp[fZ]at h;subst h;simp[TW]
 |p::r,ss,hp,h=>by
  unfold fZ at h;split at h
  .cases h
  .rename_i s hs;cases hx:fZ rec r with
   |none=>rw[hx]at h;cases h
   |some x=>rw[hx]at h;simp at h;subst h;simp only[TW];have hb:depth (bare p)<=D:=qh fun n hn=>mG (hp p Aa) n (nP p n hn);exact⟨J6 hrec _ _ _ _ hb hs,Zg r x (fun q hq=>hp q (by simp[hq])) hx⟩
end
theorem Pz{D:Nat}:∀(l:List Nd) (out:List (List Nd)) (cur:List Nd),(∀p∈out,depth p<=D)->(∀n∈cur,eU n<=D)->(∀n∈l,eU n<=D)->∀p∈iZ out cur l,depth p<=D
 |[],out,cur,ho,hc,_=>by
  unfold iZ;intro p hp;rcases List.mem_append.1 hp with hp|hp
  .exact ho p hp
  .rw[List.mem_singleton.1 hp];exact qh hc
 |n::r,out,cur,ho,hc,hl=>by
  unfold iZ;split
  .refine Pz r _ _ (fun p hp=>?_) Aa fun m hm=>hl m (by simp[hm]);rcases List.mem_append.1 hp with hp|hp
   .exact ho p hp
   .rw[List.mem_singleton.1 hp];exact qh hc
  .refine Pz r _ _ ho (fun m hm=>?_) fun m hm=>hl m (by simp[hm]);rcases List.mem_append.1 hm with hm|hm
   .exact hc m hm
   .rw[List.mem_singleton.1 hm];exact hl n Aa
theorem Zh{rec:List Nd->Option bY}(hrec:∀l ss D,rec l=some ss->depth l<=D->TW ss D){D:Nat}{l:List Nd}{ss:bY}(h:oz rec l=some ss)(hn:depth l<=D):TW ss D:=by
 unfold oz at h;split at h
 .cases h
 .exact Zg hrec _ _ (Pz l [] [] Aa Aa (mG hn)) h
theorem aen:∀(f:Nat) (l:List Nd) (ss:bY) (D:Nat),lM f l=some ss->depth l<=D->TW ss D
 |0,l,ss,D,h,hn=>Zh (rec:=fun _=>none) (fun _ _ _ h=>by cases h) h hn
 |f+1,l,ss,D,h,hn=>Zh (rec:=lM f) (fun l ss D h1 h2=>aen f l ss D h1 h2) h hn
end
def sJ(ts:List Tok)(ns:List Nd):Prop:=∀(e:BY) (rest:List Tok),(e≠aA->∀n∈ns,au n.t e=false)->kids e (ts++rest)=(ns++(kids e rest).1,(kids e rest).2)
theorem sJ.nil:sJ [] []:=fun _ _ _=>rfl
theorem sJ.append{a b:List Tok}{na nb:List Nd}(h:sJ a na)(k:sJ b nb):sJ (a++b) (na++nb):=by intro e rest hn;rw[List.append_assoc,h e _ (fun he n hm=>hn he n (by simp[hm])),k e rest (fun he n hm=>hn he n (by simp[hm])),List.append_assoc]
theorem Zi{e:BY}{t:Tok}{k:List Nd}(hn:e≠aA->∀n∈[Nd.mk t k],au n.t e=false):¬(e≠aA/\au t e=true):=fun hh=>by have:=hn hh.1 (.mk t k) Aa;rw[Nd.Qq,hh.2]at this;cases this
theorem sJ.leaf{t:Tok}(h:closing t=aA):sJ [t] [.mk t []]:=by intro e rest hn;rw[List.singleton_append,iy (Zi hn),sU h];rfl
theorem sJ.block{t:Tok}{ts:List Tok}{ns:List Nd}(h:sJ ts ns)(hc:closing t≠aA)(hs:∀n∈ns,au n.t (closing t)=false):sJ (t::(ts++[Tok.w 15 (closing t)])) [.mk t ns]:=by
 intro e rest hn;have hi:inside t ((ts++[Tok.w 15 (closing t)])++rest)=(ns,rest):=by unfold inside;rw[if_neg hc,List.append_assoc,h _ _ (fun _=>hs),List.singleton_append,qX ⟨hc,by simp[au,Tok.w]⟩,List.append_nil]
 rw[List.cons_append,iy (Zi hn),hi];rfl
theorem yF{c d:UInt8}(h:b1 c=b1 d):c=d:=by have:=congrArg (fun x=>x.data.toList) h;simpa[b1]using this
theorem wE{c:UInt8}(h:c≠40/\c≠91/\c≠123):closing (Tok.w 15 (b1 c))=aA:=by unfold closing;rw[if_neg (by simp[Tok.w]),if_pos (by rfl),show(Tok.w 15 (b1 c)).word=b1 c from rfl,if_neg (fun e=>h.1 (yF e)),if_neg (fun e=>h.2.1 (yF e)),if_neg (fun e=>h.2.2 (yF e))]
theorem dV{t:Tok}(h:t.kind≠11/\t.kind≠15):closing t=aA:=by unfold closing;rw[if_neg h.1,if_neg h.2]
def DK(L:List UInt8)(n:Nd):Prop:=n.t.kind=15->∃c∈L,n.t.word=b1 c
theorem DK.no{L:List UInt8}{n:Nd}{d:UInt8}(h:DK L n)(hd:d ∉ L):au n.t (b1 d)=false:=by
 cases hs:au n.t (b1 d)with
 |false=>rfl
 |true=>unfold au at hs;simp only[Bool.and_eq_true,decide_eq_true_eq]at hs;obtain⟨c,hc,e⟩:=h hs.1;rw[hs.2]at e;exact absurd (yF e ▸ hc) hd
theorem DK.mono{L M:List UInt8}{n:Nd}(h:DK L n)(hs:∀c∈L,c∈M):DK M n:=fun hk=>by obtain⟨c,hc,e⟩:=h hk;exact⟨c,hs c hc,e⟩
theorem kC(a b:List Nd):depth (a++b)=max (depth a) (depth b):=by
 induction a with
 |nil=>simp[depth]
 |cons n r ih=>rw[List.cons_append,dU,dU,ih];omega
theorem NH:depth ([]:List Nd)=0:=by simp[depth]
theorem qj(t:Tok)(k:List Nd):eU (.mk t k)=if closing t=aA then 0 else depth k+1:=by rw[eU]
theorem wF{t:Tok}(h:closing t=aA):depth [Nd.mk t []]=0:=by rw[dU,qj,if_pos h];simp[depth]
theorem zu{t:Tok}{ns:List Nd}{D:Nat}(h:depth ns+1<=D):depth [Nd.mk t ns]<=D:=by
 rw[dU,qj];have:depth ([]:List Nd)=0:=by simp[depth]
 split<;>omega
def su(D:Nat)(L:List UInt8)(ps:List Pc):Prop:=∃ns,sJ (dA ps) ns/\(∀n∈ns,DK L n)/\depth ns<=D
theorem su.nil(D:Nat)(L:List UInt8):su D L []:=⟨[],sJ.nil,by simp,by simp[depth]⟩
theorem su.append{D:Nat}{L:List UInt8}{a b:List Pc}(h:su D L a)(k:su D L b):su D L (a++b):=by
 obtain⟨na,h1,h2,h3⟩:=h;obtain⟨nb,k1,k2,k3⟩:=k;refine⟨na++nb,by rw[cO];exact h1.append k1,fun n hn=>?_,by rw[kC];omega⟩;rcases List.mem_append.1 hn with hn|hn
 .exact h2 n hn
 .exact k2 n hn
theorem su.mono{D:Nat}{L M:List UInt8}{a:List Pc}(h:su D L a)(hs:∀c∈L,c∈M):su D M a:=by obtain⟨na,h1,h2,h3⟩:=h;exact⟨na,h1,fun n hn=>(h2 n hn).mono hs,h3⟩
theorem qA{n:Int}{x:BY}(h:n≠11/\n≠15):(Tok.w n x).kind≠11/\(Tok.w n x).kind≠15:=h
theorem wY{n:Int}(h:n≠11/\n≠15):(Tok.k n).kind≠11/\(Tok.k n).kind≠15:=h
theorem nX{q:Pc}{t:Tok}(ht:q.tok=some t)(hk:t.kind≠11/\t.kind≠15):sJ (dA [q]) [.mk t []]:=by
 have e:dA [q]=[t]:=by unfold dA;rw[List.filterMap_cons,ht];rfl
 rw[e];exact sJ.leaf (dV hk)
theorem iF{D:Nat}{L:List UInt8}{q:Pc}{t:Tok}(ht:q.tok=some t)(hk:t.kind≠11/\t.kind≠15):su D L [q]:=⟨_,nX ht hk,fun n hn h=>by rw[List.mem_singleton.1 hn]at h;exact absurd h hk.2,by rw[wF (dV hk)];omega⟩
theorem J7{c:UInt8}(h:c≠40/\c≠91/\c≠123):sJ (dA [.sign c]) [.mk (Tok.w 15 (b1 c)) []]:=sJ.leaf (wE h)
theorem uM{D:Nat}{L:List UInt8}{c:UInt8}(h:c≠40/\c≠91/\c≠123)(hc:c∈L):su D L [.sign c]:=⟨_,J7 h,fun n hn _=>by rw[List.mem_singleton.1 hn];exact⟨c,hc,rfl⟩,by rw[wF (wE h)];omega⟩
theorem su.cons{D:Nat}{L:List UInt8}{q:Pc}{l:List Pc}(h:su D L [q])(k:su D L l):su D L (q::l):=h.append (a:=[q]) k
theorem abe{p:aF}{t:Tok}{k:List Nd}(h:vT p t k)(e:t.kind=15):t.word≠b1 41/\t.word≠b1 93/\t.word≠b1 125/\t.word≠b1 59:=by
 have hh:=h.harm;unfold oI at hh;rw[if_neg oo,if_pos e]at hh;rcases jo e with c|⟨c,_⟩|⟨c,_⟩|⟨c,_⟩
 .rw[c]at hh;simp only[decide_true,Bool.not_true,Bool.false_or]at hh;unfold vk at hh;simp only[Bool.or_eq_true,decide_eq_true_eq]at hh;rcases hh with (((((((h|h)|h)|h)|h)|h)|h)|h)|h<;>rw[h]<;>refine⟨?_,?_,?_,?_⟩<;>(intro e;exact absurd (yF e) Ab)
 .rw[c];refine⟨?_,?_,?_,?_⟩<;>(intro e;exact absurd (yF e) Ab)
 .rw[c];refine⟨?_,?_,?_,?_⟩<;>(intro e;exact absurd (yF e) Ab)
 .rw[c];refine⟨?_,?_,?_,?_⟩<;>(intro e;exact absurd (yF e) Ab)
theorem abf{t:Tok}(e:t.kind=15):closing (Tok.w 15 t.word)=closing t:=by unfold closing;rw[if_neg (by simp[Tok.w]),if_pos (by rfl),if_neg (show ¬t.kind=11 by omega),if_pos e];rfl
theorem yG{p:aF}{l ns:List Nd}(hl:vL p l)(hn:∀m∈ns,m.t.kind=15->∃n∈l,n.t.kind=15/\n.t.word=m.t.word)(d:UInt8)(hd:d=41\/d=93\/d=125):∀m∈ns,au m.t (b1 d)=false:=by
 intro m hm;cases hs:au m.t (b1 d)with
 |false=>rfl
 |true=>
  exfalso
  unfold au at hs;simp only[Bool.and_eq_true,decide_eq_true_eq]at hs;obtain⟨n,h1,h2,h3⟩:=hn m hm hs.1;have:=abe ((EJ p n).1 ((Xf p l).1 hl n h1)).1 h2;rw[h3,hs.2]at this;rcases hd with rfl|rfl|rfl
  .exact this.1 rfl
  .exact this.2.1 rfl
  .exact this.2.2.1 rfl
mutual
theorem ndN(p:aF):∀(n:Nd),vN p n->∃m,sJ (dA (pcN n)) [m]/\(m.t.kind=15->n.t.kind=15/\n.t.word=m.t.word)/\eU m<=eU n
 |.mk t k,h=>by
  simp only[vN]at h;have hv:=h.1;obtain⟨ns,ih,ih2,ih3⟩:=ndF p none k h.2;have lf:∀(u:Tok),closing u=aA->eU (.mk u [])<=eU (.mk t k):=fun u hu=>by rw[qj,if_pos hu];omega
  have bl:∀(u:Tok),closing t≠aA->eU (.mk u ns)<=eU (.mk t k):=fun u hu=>by rw[qj,qj,if_neg hu];split<;>omega
  rw[Bc];simp only[Nd.Qq,Nd.BK];rcases hv.kinds with e|e|e|e|e|e|e|e|e
  .rw[Y5 _ e];exact⟨_,nX rfl (wY Ab),(fun h=>by cases h),lf _ (dV (by first|exact qA Ab|exact wY Ab|exact(show(7:Int)≠11/\(7:Int)≠15 by decide)))⟩
  .rw[Tc _ e];exact⟨_,nX rfl (qA Ab),(fun h=>by cases h),lf _ (dV (by first|exact qA Ab|exact wY Ab|exact(show(7:Int)≠11/\(7:Int)≠15 by decide)))⟩
  .rw[adA _ e];exact⟨_,nX rfl (qA Ab),(fun h=>by cases h),lf _ (dV (by first|exact qA Ab|exact wY Ab|exact(show(7:Int)≠11/\(7:Int)≠15 by decide)))⟩
  .rw[adB _ e];exact⟨_,nX rfl (qA Ab),(fun h=>by cases h),lf _ (dV (by first|exact qA Ab|exact wY Ab|exact(show(7:Int)≠11/\(7:Int)≠15 by decide)))⟩
  .rw[adC _ e];exact⟨_,nX rfl (qA Ab),(fun h=>by cases h),lf _ (dV (by first|exact qA Ab|exact wY Ab|exact(show(7:Int)≠11/\(7:Int)≠15 by decide)))⟩
  .rw[adD _ e];exact⟨_,nX rfl (show(7:Int)≠11/\(7:Int)≠15 by decide),(fun h=>by cases h),lf _ (dV (by first|exact qA Ab|exact wY Ab|exact(show(7:Int)≠11/\(7:Int)≠15 by decide)))⟩
  .rw[Xh _ e];have hc:closing (Tok.w 11 (vZ t.word))=b1 41:=rfl;have e2:dA (.func t.word::(zZ none k++[.sign 41]))=Tok.w 11 (vZ t.word)::(dA (zZ none k)++[Tok.w 15 (closing (Tok.w 11 (vZ t.word)))]):=by
    rw[hc];show Tok.w 11 (vZ t.word)::dA (zZ none k++[.sign 41])=_;rw[cO];rfl
   rw[e2];exact⟨_,ih.block (by rw[hc];exact OW 41) (by rw[hc];exact yG h.2 ih2 41 (.inl rfl)),(fun h=>by cases h),bl _ (by unfold closing;rw[if_pos e];decide)⟩
  .rw[Xi _ e];exact⟨_,nX rfl (qA Ab),(fun h=>by cases h),lf _ (dV (by first|exact qA Ab|exact wY Ab|exact(show(7:Int)≠11/\(7:Int)≠15 by decide)))⟩
  .rw[EK _ e];have hw:=(Xe (hv.ok.sign e)).2;have e3:Tok.w 15 (b1 (bt t.word))=Tok.w 15 t.word:=by rw[<-hw]
   have hcw:=abf e;by_cases hc:closing t=aA
   .have hk:=hv.leaf hc;rw[hk,zl];have e2:dA (.sign (bt t.word)::([]++SV t))=[Tok.w 15 t.word]:=by
     unfold SV;rw[if_pos hc,<-e3];rfl
    rw[e2];exact⟨_,sJ.leaf (by rw[hcw];exact hc),fun _=>⟨e,rfl⟩,by have:=lf (Tok.w 15 t.word) (by rw[hcw];exact hc);rwa[hk]at this⟩
   .have e2:dA (.sign (bt t.word)::(zZ none k++SV t))=Tok.w 15 t.word::(dA (zZ none k)++[Tok.w 15 (closing (Tok.w 15 t.word))]):=by
     show Tok.w 15 (b1 (bt t.word))::dA (zZ none k++SV t)=_;rw[cO,e3,hcw];congr 2
     unfold SV;rw[if_neg hc];show [Tok.w 15 (b1 (bt (closing t)))]=_;have:(closing t).size=1:=by
      rcases jo e with q|⟨_,q⟩|⟨_,q⟩|⟨_,q⟩
      .exact absurd q hc
      all_goals rw[q];rfl
     rw[<-(Xe this).2]
    rw[e2];refine⟨_,ih.block (by rw[hcw];exact hc) ?_,fun _=>⟨e,rfl⟩,bl _ hc⟩;rw[hcw];rcases jo e with q|⟨_,q⟩|⟨_,q⟩|⟨_,q⟩
    .exact absurd q hc
    .rw[q];exact yG h.2 ih2 41 (.inl rfl)
    .rw[q];exact yG h.2 ih2 93 (.inr (.inl rfl))
    .rw[q];exact yG h.2 ih2 125 (.inr (.inr rfl))
theorem ndF(p:aF):∀(a:Option Tok) (l:List Nd),vL p l->∃ns,sJ (dA (zZ a l)) ns/\(∀m∈ns,m.t.kind=15->∃n∈l,n.t.kind=15/\n.t.word=m.t.word)/\depth ns<=depth l
 |_,[],_=>by rw[zl];exact⟨[],sJ.nil,by simp,by simp[depth]⟩
 |a,n::r,h=>by
  simp only[vL]at h;obtain⟨m,h1,h2,h2'⟩:=ndN p n h.1;obtain⟨ns,h3,h4,h4'⟩:=ndF p (some n.t) r h.2;have hdc:=dU n r;rw[rQ,cO];have h5:∀m∈ns,m.t.kind=15->∃q∈n::r,q.t.kind=15/\q.t.word=m.t.word:=fun x hx hk=>by obtain⟨q,q1,q2⟩:=h4 x hx hk;exact⟨q,List.mem_cons_of_mem _ q1,q2⟩
  split
  .exact⟨ns,h3,h5,oo⟩
  .rw[cO];have hg:dA (SX a n.t)=[]:=by
    unfold SX;split
    .rfl
    .split<;>rfl
   rw[hg,List.nil_append];refine⟨[m]++ns,h1.append h3,fun x hx hk=>?_,by rw[kC,dU,hdc,NH];omega⟩;rcases List.mem_append.1 hx with hx|hx
   .rw[List.mem_singleton.1 hx]at hk⊢;exact⟨n,by simp,h2 hk⟩
   .exact h5 x hx hk
end
def DL:List UInt8:=[46,91,58,42,62,43,126]
def abg(n:Nd):Prop:=n.t.kind=14\/n.t.kind=4\/(n.t.kind=15/\∃c∈([46,91,58,42]:List UInt8),n.t.word=b1 c)
def NdF(D:Nat)(ps:List Pc):Prop:=∃n r,sJ (dA ps) (n::r)/\(∀m∈n::r,DK DL m)/\abg n/\depth (n::r)<=D
theorem NdF.t{D:Nat}{ps:List Pc}(h:NdF D ps):su D DL ps:=by obtain⟨n,r,h1,h2,_,h4⟩:=h;exact⟨_,h1,h2,h4⟩
theorem NdF.append{D:Nat}{a b:List Pc}(h:NdF D a)(k:su D DL b):NdF D (a++b):=by
 obtain⟨n,r,h1,h2,h3,h4⟩:=h;obtain⟨nb,k1,k2,k3⟩:=k;refine⟨n,r++nb,by rw[cO];exact h1.append k1,fun m hm=>?_,h3,by rw[<-List.cons_append,kC];omega⟩;rw[<-List.cons_append]at hm;rcases List.mem_append.1 hm with hm|hm
 .exact h2 m hm
 .exact k2 m hm
theorem Uc{D:Nat}{q:Pc}{t:Tok}(ht:q.tok=some t)(hk:t.kind=14\/t.kind=4):NdF D [q]:=⟨_,_,nX ht oo,fun n hn h=>by rw[List.mem_singleton.1 hn]at h;simp only[Nd.Qq]at h;omega,hk.elim .inl fun h=>.inr (.inl h),by rw[wF (dV oo)];omega⟩
theorem yH{D:Nat}{c:UInt8}(h:c=46\/c=58\/c=42):NdF D [.sign c]:=⟨_,_,J7 (by rcases h with rfl|rfl|rfl<;>decide),fun n hn _=>by rw[List.mem_singleton.1 hn];exact⟨c,by rcases h with rfl|rfl|rfl<;>decide,rfl⟩,.inr (.inr ⟨rfl,c,by rcases h with rfl|rfl|rfl<;>decide,rfl⟩),by rw[wF (wE (by rcases h with rfl|rfl|rfl<;>decide))];omega⟩
theorem Zj{d D:Nat}(hD:d+1<=D){l:List Pc}{L:List UInt8}(h:su d L l)(hL:93 ∉ L):NdF D (.sign 91::(l++[.sign 93])):=by
 obtain⟨ns,h1,h2,h3⟩:=h;have hc:closing (Tok.w 15 (b1 91))=b1 93:=by decide
 have e:dA (.sign 91::(l++[.sign 93]))=Tok.w 15 (b1 91)::(dA l++[Tok.w 15 (closing (Tok.w 15 (b1 91)))]):=by rw[hc];show Tok.w 15 (b1 91)::dA (l++[.sign 93])=_;rw[cO];rfl
 refine⟨_,_,by rw[e];exact h1.block (by rw[hc];exact OW 93) (by rw[hc];exact fun n hn=>(h2 n hn).no hL),fun n hn _=>by rw[List.mem_singleton.1 hn];exact⟨91,by decide,rfl⟩,.inr (.inr ⟨rfl,91,by decide,rfl⟩),zu oo⟩
theorem Ud{d D:Nat}(hD:d+1<=D){w:BY}{l:List Pc}{L M:List UInt8}(h:su d L l)(hL:41 ∉ L):su D M (.func w::(l++[.sign 41])):=by
 obtain⟨ns,h1,h2,h3⟩:=h;have hc:closing (Tok.w 11 (vZ w))=b1 41:=rfl;have e:dA (.func w::(l++[.sign 41]))=Tok.w 11 (vZ w)::(dA l++[Tok.w 15 (closing (Tok.w 11 (vZ w)))]):=by rw[hc];show Tok.w 11 (vZ w)::dA (l++[.sign 41])=_;rw[cO];rfl
 exact⟨_,by rw[e];exact h1.block (by rw[hc];exact OW 41) (by rw[hc];exact fun n hn=>(h2 n hn).no hL),(fun n hn hk=>by rw[List.mem_singleton.1 hn]at hk;cases hk),zu oo⟩
theorem aeo{D:Nat}(hD:1<=D){name how value:BY}(hh:wL how):NdF D (CU name how value):=by
 unfold CU;split
 .exact Zj (d:=0) hD (l:=[.ident name]) (L:=[]) (iF rfl (qA Ab)) Ab
 .have hs:∀(l:List UInt8),(∀c∈l,c∈([61,126,94,36,42]:List UInt8))->su 0 [61,126,94,36,42] (l.map Pc.sign):=by
   intro l;induction l with
   |nil=>intro _;exact su.nil _ _
   |cons c r ih=>intro hc;have h0:=hc c Aa;refine su.cons (uM ?_ h0) (ih fun x hx=>hc x (by simp[hx]));simp only[List.mem_cons,List.not_mem_nil,or_false]at h0;rcases h0 with rfl|rfl|rfl|rfl|rfl<;>decide
  have hw:∀c∈how.data.toList,c∈([61,126,94,36,42]:List UInt8):=by rcases hh with rfl|rfl|rfl|rfl|rfl|rfl<;>decide
  have h1:su 0 [61,126,94,36,42] (.ident name::(how.data.toList.map Pc.sign++[.text value])):=su.cons (iF rfl (qA Ab)) ((hs _ hw).append (iF rfl (qA Ab)));have h2:=Zj (D:=D) hD h1 Ab;have e:(Pc.ident name::(how.data.toList.map Pc.sign++[.text value]))++[.sign 93]=.ident name::(how.data.toList.map Pc.sign++[.text value,.sign 93]):=by simp
  rw[e]at h2;exact h2
theorem abh[bV](n:Nat):su 0 [] [yA n]:=by
 unfold yA;split
 .exact iF rfl (qA Ab)
 .split
  .exact iF rfl (qA Ab)
  .exact iF rfl (qA Ab)
theorem aep{D b:Nat}(h:Io b):su D DL (Iy b):=by
 rcases h with rfl|rfl|rfl|rfl
 .exact iF rfl (wY Ab)
 .exact su.cons (iF rfl (wY Ab)) (su.cons (uM (c:=62) Ab Ab) (iF rfl (wY Ab)))
 .exact su.cons (iF rfl (wY Ab)) (su.cons (uM (c:=43) Ab Ab) (iF rfl (wY Ab)))
 .exact su.cons (iF rfl (wY Ab)) (su.cons (uM (c:=126) Ab Ab) (iF rfl (wY Ab)))
mutual
theorem ndS[bV]:∀(s:Simple) (D:Nat),Tf s->ddS s D->NdF D (pcS s)
 |.mk kind name how value list place,D,h,hd=>by
  simp only[Tf]at h;simp only[ddS]at hd;unfold pcS;split
  .split
   .exact yH (.inr (.inr rfl))
   .exact Uc rfl (.inl rfl)
  .rename_i k1;split
   .exact Uc rfl (.inr rfl)
   .rename_i k2;split
    .exact(yH (c:=46) (.inl rfl)).append (b:=[.ident name]) (iF rfl (qA Ab))
    .rename_i k3;split
     .rename_i k4;refine aeo (hd.1 k4) ?_;rcases h.1 with h|h|h|h
      .exact absurd h k1
      .omega
      .exact h.2.2
      .omega
     .rename_i k4;have hd2:=hd.2 ⟨k1,k2,k3,k4⟩;split
      .rename_i hn;have hd3:=hd2.1 hn;have ih:=ndL list (D-1) h.2.2 hd3.2;exact(yH (c:=58) (.inr (.inl rfl))).append (b:=.func name::(Vh [] list++[.sign 41])) (Ud (d:=D-1) (D:=D) (by have:=hd3.1;omega) ih Ab)
      .split
       .rename_i hn;have hd3:=hd2.2 hn;exact(yH (c:=58) (.inr (.inl rfl))).append (b:=.func name::([yA place]++[.sign 41])) (Ud (d:=0) (D:=D) oo (abh place) Ab)
       .exact(yH (c:=58) (.inr (.inl rfl))).append (b:=[.ident name]) (iF rfl (qA Ab))
theorem ndA[bV]:∀(l:List Simple) (D:Nat),KQ l->L8 l D->su D DL (OZ l)
 |[],_,_,_=>by unfold OZ;exact su.nil _ _
 |s::r,D,h,hd=>by simp only[KQ]at h;simp only[L8]at hd;unfold OZ;exact(ndS s D h.1 hd.1).t.append (ndA r D h.2 hd.2)
theorem ndR[bV]:∀(l:List (Nat×List Simple)) (D:Nat),sfR l->ddC l D->su D DL (D8 l)
 |[],_,_,_=>by unfold D8;exact su.nil _ _
 |(b,all)::r,D,h,hd=>by simp only[sfR]at h;simp only[ddC,ddT]at hd;unfold D8 Xm;exact((aep h.1).append (ndA all D h.2.2.2.1 hd.1)).append (ndR r D h.2.2.2.2 hd.2)
theorem ndC[bV]:∀(l:List (Nat×List Simple)) (D:Nat),sfC l->ddC l D->NdF D (D8 l)
 |[],_,h,_=>by simp only[sfC]at h
 |(b,all)::r,D,h,hd=>by
  simp only[sfC]at h;simp only[ddC,ddT]at hd;have hb:Iy b=[]:=by rw[h.1];rfl
  unfold D8 Xm;rw[hb,List.nil_append];have hr:=ndR r D h.2.2.2.2 hd.2;match all,h.2.1,h.2.2.2.1,hd.1 with
  |s::q,_,hs,hq=>simp only[KQ]at hs;simp only[L8]at hq;unfold OZ;exact((ndS s D hs.1 hq.1).append (ndA q D hs.2 hq.2)).append hr
theorem ndL[bV]:∀(l:List (List (Nat×List Simple))) (D:Nat),F9 l->TW l D->su D (44::DL) (Vh [] l)
 |[],_,_,_=>by unfold Vh;exact su.nil _ _
 |c::r,D,h,hd=>by simp only[F9]at h;simp only[TW]at hd;unfold Vh;exact(su.nil _ _).append (((ndC c D h.1 hd.1).t.mono (fun x hx=>List.mem_cons_of_mem _ hx)).append (alR r D h.2 hd.2))
theorem alR[bV]:∀(l:List (List (Nat×List Simple))) (D:Nat),F9 l->TW l D->su D (44::DL) (uH [] l)
 |[],_,_,_=>by unfold uH;exact su.nil _ _
 |c::r,D,h,hd=>by simp only[F9]at h;simp only[TW]at hd;unfold uH;exact su.cons (uM Ab Ab) ((su.nil _ _).append (((ndC c D h.1 hd.1).t.mono (fun x hx=>List.mem_cons_of_mem _ hx)).append (alR r D h.2 hd.2)))
end
def aix:Nd:=.mk (Tok.w 15 (b1 44)) []
def uO(PA:List Nd):List (List Nd)->List Nd
 |[]=>[]
 |x::r=>aix::(PA++(x++uO PA r))
def pI(PA:List Nd):List (List Nd)->List Nd
 |[]=>[]
 |x::r=>PA++(x++uO PA r)
def L9(D:Nat)(x:List Nd):Prop:=∃n r,x=n::r/\(∀m∈x,DK DL m)/\abg n/\depth x<=D
theorem aj0[bV](pa:List Pc)(PA:List Nd)(hpa:sJ (dA pa) PA):∀(l:List (List (Nat×List Simple))) (D:Nat),F9 l->TW l D->∃xs:List (List Nd),xs.length=l.length/\sJ (dA (Vh pa l)) (pI PA xs)/\∀x∈xs,L9 D x
 |[],_,_,_=>by unfold Vh;exact⟨[],rfl,sJ.nil,by simp⟩
 |c::r,D,h,hd=>by
  simp only[F9]at h;simp only[TW]at hd;obtain⟨n,q,h1,h2,h3⟩:=ndC c D h.1 hd.1;have hl:∀(l:List (List (Nat×List Simple))),F9 l->TW l D->∃xs:List (List Nd),xs.length=l.length/\sJ (dA (uH pa l)) (uO PA xs)/\∀x∈xs,L9 D x:=by
   intro l;induction l with
   |nil=>intro _ _;unfold uH;exact⟨[],rfl,sJ.nil,by simp⟩
   |cons c r ih=>
    intro h hd;simp only[F9]at h;simp only[TW]at hd;obtain⟨n,q,h1,h2,h3⟩:=ndC c D h.1 hd.1;obtain⟨xs,h0,h4,h5⟩:=ih h.2 hd.2;unfold uH;refine⟨(n::q)::xs,by simp[h0],?_,fun x hx=>?_⟩
    .have e:dA (.sign 44::(pa++(D8 c++uH pa r)))=dA [.sign 44]++(dA pa++(dA (D8 c)++dA (uH pa r))):=by
      rw[<-cO,<-cO,<-cO];rfl
     rw[e];exact(J7 Ab).append (hpa.append (h1.append h4))
    .rcases List.mem_cons.1 hx with rfl|hx
     .exact⟨n,q,rfl,h2,h3⟩
     .exact h5 x hx
  obtain⟨xs,h0,h4,h5⟩:=hl r h.2 hd.2;unfold Vh;refine⟨(n::q)::xs,by simp[h0],?_,fun x hx=>?_⟩
  .rw[cO,cO];exact hpa.append (h1.append h4)
  .rcases List.mem_cons.1 hx with rfl|hx
   .exact⟨n,q,rfl,h2,h3⟩
   .exact h5 x hx
def abk:Nd:=.mk (Tok.w 15 (b1 46)) []
def Bo(root:BY):Nd:=.mk (Tok.w 14 root) []
def PD:Nd:=.mk (Tok.k 1) []
def zH(root:BY):List Nd:=[abk,Bo root,PD]
end Go.Proofs.YtlliliddljkbfaaGreat.Sp
namespace Go.Proofs.YtlliliddljkbfaaGreat
open Go.Proofs.Tryz (prog)
open Go.RowKit Sp
section
theorem Nr:∀(a b:List Simple),zA (a++b)=zA a+zA b
 |[],b=>by simp[zA]
 |s::r,b=>by
  rw[List.cons_append];conv=>lhs;unfold zA
  conv=>rhs;lhs;unfold zA
  rw[Nr r b];omega
theorem WR(s:Simple):zA [s]=zS s:=by simp[zA]
theorem YQ(k:Nat)(nm how v:BY)(l:bY)(p:Nat):zS (.mk k nm how v l p)=4*nm.size+4*v.size+how.size+120+zL l:=by conv=>lhs;unfold zS
theorem WS:zL []=0:=by unfold zL;rfl
theorem Jr(k:Nat)(nm:BY):zS (Simple.of k nm)=4*nm.size+120:=by unfold Simple.of;rw[YQ,WS];have e:aA.size=0:=rfl;rw[e]
theorem Sr{l:List Nd}{s:Simple}(h:gG l=some s):zS s<=4*dL l+124:=by
 unfold gG at h;split at h
 .cases h
 .rename_i n r;rw[bW,gY n];simp only at h;split at h
  .cases h
  .split at h
   .cases h;rw[Jr];omega
   .rename_i m r1 hb;have h3:=kU r;rw[hb,bW,gY m]at h3;split at h
    .cases h
    .split at h
     .cases h
     .rename_i q r2 hq;have hq2:dL (q::r2)<=16+4*m.t.word.size+4*m.t.unit.size+dL m.kids+dL r1:=by
       rw[<-hq];split
       .omega
       .rw[bW,gY];omega
      rw[bW]at hq2;split at h
      .rename_i v hv;have h4:=kU r2;rw[hv,bW,gY v]at h4;split at h
       .cases h;rw[YQ,WS];have e:((if m.t.word=b1 126\/m.t.word=b1 94\/m.t.word=b1 36\/m.t.word=b1 42 then m.t.word else aA)++b1 61).size<=m.t.word.size+1:=by
         rw[ByteArray.size_append];have e1:(b1 61).size=1:=rfl;have e0:aA.size=0:=rfl;split
         .omega
         .omega
        omega
       .cases h
      .cases h
theorem ade{l r:List Nd}{c:Nat}(h:gU l=some (c,r)):dL r<=dL l:=by
 have hd:=uD l;unfold gU at h;split at h
 .split at h
  .cases h
  .cases h;rw[lG];exact Nat.zero_le _
 .rename_i n q hq;have hb:=uD q;rw[hq,bW]at hd;split at h
  .cases h;omega
  split at h
  .cases h;omega
  split at h
  .cases h;omega
  split at h
  .cases h;rw[bW];omega
  .cases h
theorem Js:∀(l:List Nd) (out:List (List Nd)) (cur:List Nd),((iZ out cur l).map dL).sum<=(out.map dL).sum+dL cur+dL l
 |[],out,cur=>by unfold iZ;rw[List.map_append,List.sum_append];simp only[List.map_cons,List.map_nil,List.sum_cons,List.sum_nil];omega
 |m::r,out,cur=>by
  unfold iZ;rw[bW];split
  .have:=Js r (out++[cur]) [];rw[List.map_append,List.sum_append,lG]at this;simp only[List.map_cons,List.map_nil,List.sum_cons,List.sum_nil]at this;omega
  .have:=Js r out (cur++[m]);rw[vY,bW,lG]at this;omega
section
variable {rec:List Nd->Option bY} (hrec : ∀ l ss,rec l=some ss->zL ss<=16*dL l)
include hrec
theorem aaI{n:Nd}{s:Simple}(h:bM rec n=some s):zS s+100<=16*Cc n:=by
 rw[gY];unfold bM at h;simp only at h;split at h
 .split at h
  .cases h;rw[Jr,jE];omega
  .cases h
 split at h
 .cases h
 have e:aA.size=0:=rfl;split at h
 .cases hr:rec n.kids with
  |none=>rw[hr]at h;cases h
  |some ss=>rw[hr]at h;simp at h;subst h;have:=hrec _ _ hr;rw[YQ,jE,e];omega
 split at h
 .split at h
  .rename_i v hv;cases hp:placeOf v.t with
   |none=>rw[hp]at h;cases h
   |some q=>rw[hp]at h;simp at h;subst h;rw[YQ,jE,e,WS];omega
  .cases h
 .cases h
theorem adf(n:Nat):∀(acc:List Simple) (l:List Nd) (all:List Simple) (r:List Nd),l.length<=n->bZ rec acc l=some (all,r)->zA all+100*all.length+16*dL r<=zA acc+100*acc.length+16*dL l:=by
 induction n with
 |zero=>intro acc l all r hl h;obtain rfl:l=[]:=List.eq_nil_of_length_eq_zero oo;simp[bZ]at h;obtain⟨rfl,rfl⟩:=h;exact Nat.le_refl _
 |succ n ih=>
  intro acc l all r hl h;have one:∀s,zA (acc++[s])+100*(acc++[s]).length=zA acc+100*acc.length+(zS s+100):=fun s=>by rw[Nr,WR,List.length_append];show _+100*(_+1)=_;omega
  match l,hl,h with
  |[],_,h=>simp[bZ]at h;obtain⟨rfl,rfl⟩:=h;exact Nat.le_refl _
  |[m],_,h=>
   rw[bW,gY m,lG];unfold bZ at h;split at h
   .cases h;rw[one,Jr,lG];omega
   split at h
   .cases h
   split at h
   .split at h
    .cases h
    .rename_i s hs;cases h;have h1:=Sr hs;have h2:=kU m.kids;rw[one,lG];omega
   split at h
   .cases h
   .cases h;rw[bW,gY m,lG];omega
  |m::q::r',hl,h=>
   simp only[List.length_cons]at hl;rw[bW,gY m];unfold bZ at h;split at h
   .have:=ih _ _ _ _ Al h;rw[one,Jr]at this;omega
   split at h
   .split at h
    .have:=ih _ _ _ _ oo h;rw[one,Jr]at this;rw[bW,gY q];omega
    .cases h
   split at h
   .split at h
    .cases h
    .rename_i s hs;have:=ih _ _ _ _ Al h;have h1:=Sr hs;have h2:=kU m.kids;rw[one]at this;omega
   split at h
   .split at h
    .cases h
    .rename_i s hs;have:=ih _ _ _ _ oo h;have h1:=aaI hrec hs;rw[one]at this;rw[bW q];omega
   .cases h;rw[bW m,gY m];omega
theorem Sv{l:List Nd}{all:List Simple}{r:List Nd}(h:aZ rec l=some (all,r)):zA all+100*all.length+16*dL r<=16*dL l:=by
 unfold aZ at h;have h1:=adf hrec _ _ _ _ _ nl h;have ht:zA (kP l).1+100*(kP l).1.length+16*dL (kP l).2<=16*dL l:=by
  unfold kP;split
  .simp[zA]
  .rw[bW,gY];split
   .simp only[WR,Jr,jE];show _+100*1+_<=_;omega
   split
   .have e:aA.size=0:=rfl;simp only[WR,Jr,e];show _+100*1+_<=_;omega
   .simp only[bW,gY];show zA []+100*0+_<=_;have e:zA []=0:=by unfold zA;rfl
    omega
 omega
theorem Jt:∀(f b:Nat) (l:List Nd) (ss:List Step),bD rec f b l=some ss->zC ss+90<=16*dL l
 |0,_,_,_,h=>by simp[bD]at h
 |f+1,b,l,ss,h=>by
  unfold bD at h;split at h
  .cases h
  .rename_i all r hc;have h1:=Sv hrec hc;split at h
   .cases h
   .rename_i hne;have hl:1<=all.length:=by cases all with|nil=>exact absurd rfl hne|cons _ _=>simp
    split at h
    .cases h;simp only[zC,zT];omega
    .split at h
     .cases h
     .rename_i c r' hcb;have hw:=ade hcb;cases hx:bD rec f c r' with
      |none=>rw[hx]at h;cases h
      |some x=>
       rw[hx]at h;simp at h;subst h;have ih:=Jt f c r' x hx;conv=>lhs;unfold zC
       simp only[zT];omega
theorem YR:∀(ps:List (List Nd)) (ss:bY),fZ rec ps=some ss->zL ss<=16*(ps.map dL).sum
 |[],ss,h=>by simp[fZ]at h;subst h;simp[zL]
 |p::r,ss,h=>by
  unfold fZ at h;split at h
  .cases h
  .rename_i s hs;cases hx:fZ rec r with
   |none=>rw[hx]at h;cases h
   |some x=>
    rw[hx]at h;simp at h;subst h;have h1:=Jt hrec _ _ _ _ hs;have h2:=kU p;have h3:=YR r x hx;conv=>lhs;unfold zL
    rw[List.map_cons,List.sum_cons];omega
theorem YS{l:List Nd}{ss:bY}(h:oz rec l=some ss):zL ss<=16*dL l:=by
 unfold oz at h;split at h
 .cases h
 .have h1:=YR hrec _ _ h;have h2:=Js l [] [];rw[lG]at h2;simp only[List.map_nil,List.sum_nil]at h2;unfold parted at h1;omega
end
theorem OM:∀(f:Nat) (l:List Nd) (ss:bY),lM f l=some ss->zL ss<=16*dL l
 |0,l,ss,h=>YS (rec:=fun _=>none) (fun _ _ h=>by cases h) h
 |f+1,l,ss,h=>YS (rec:=lM f) (fun l ss h2=>OM f l ss h2) h
theorem adg:∀(ss:bY),ss.length<=zL ss
 |[]=>by simp
 |c::r=>by have:=adg r;unfold zL;simp only[List.length_cons];omega
theorem Ez(p:aF):eH p []=true:=by unfold eH jg;rfl
theorem Dt(p:aF):∀(a b:List Nd),eH p (a++b)=(eH p a&&eH p b)
 |[],b=>by rw[Ez];rfl
 |n::r,b=>by rw[List.cons_append,pz,pz,Dt p r b];cases oI p n.t<;>cases eH p n.kids<;>cases eH p r<;>rfl
theorem EC(p:aF):∀(a:List Nd),eH p a.reverse=eH p a
 |[]=>rfl
 |n::r=>by rw[List.reverse_cons,Dt,EC p r,pz,pz,Ez];cases oI p n.t<;>cases eH p n.kids<;>cases eH p r<;>rfl
theorem yt(p:aF):∀(l:List Nd),gL l->eH p (aH l)=eH p l
 |[],_=>by unfold aH;rfl
 |n::r,h=>by
  simp only[gL]at h;unfold aH;split
  .rename_i hb;have hk:n.t.kind=1:=by unfold iH at hb;simpa using hb
   have hc:closing n.t=aA:=by unfold closing;rw[if_neg (by rw[hk];omega),if_neg (by rw[hk];omega)]
   have hkids:=((Ba n).1 h.1).2.2.1 hc;rw[yt p r h.2,pz,hkids,Ez];have:oI p n.t=true:=by unfold oI;simp[hk]
   rw[this];simp
  .rfl
theorem WT(p:aF){l:List Nd}(h:gL l):eH p (bare l)=eH p l:=by unfold bare lJ;have h1:gL (aH l):=qw h fun n hn=>ku l n hn;rw[EC,yt p _ (qw h1 fun n hn=>List.mem_reverse.1 hn),EC,yt p _ h]
theorem agA[bV]{p:aF}{rec:List Nd->BY}{r:Rule}(h:gL r.head)(hs:r.at_=none->r.body.isSome=true):kE p rec r=H9 p rec r:=by
 obtain⟨at_,head,body⟩:=r;unfold kE H9;cases at_ with
 |none=>
  cases body with
  |none=>have:=hs rfl;simp at this
  |some b=>
   show Jm p head b=H8 p _ b;unfold Jm H8;cases Ot head with
   |none=>rfl
   |some ss=>show yg _ _=_;unfold yg;rfl
 |some w=>
  cases body with
  |none=>show AZ p w false head _=aA;unfold AZ;rw[if_neg (by simp)]
  |some b=>
   show AZ p w true head (rec b)=_;unfold AZ yg;have h1:=WT p h;simp only at h1;rw[<-h1];by_cases hc:p.ats.contains (small w)=true/\eH p (bare head)=true
   .rw[if_pos (by rw[hc.1,hc.2];rfl)];simp only;rw[if_pos hc];split
    .rfl
    .simp[ByteArray.append_assoc]
   .rw[if_neg (by intro h;simp only[Bool.true_and,Bool.and_eq_true]at h;exact hc h)];simp only;rw[if_neg hc]
theorem WU[bV](hd:jm)(root:BY)(ss:bY)(hq:CO ss)(hr:root.size<=12):(jV (jc root) ss).size<=16*zL ss:=by
 have h1:=vW (b1 44) (ss.map (fun x=>jc root++dW x));rw[AX,List.length_map]at h1;have h2:=zf hd (jc root) ss hq;have h3:(jc root).size<=14:=by
  unfold jc;split
  .show 0<=14;omega
  .rw[ByteArray.size_append,ByteArray.size_append];show 1+(_+1)<=14;omega
 have h4:ss.length*(jc root).size<=ss.length*14:=Nat.mul_le_mul nl h3;have h5:=adg ss;have e:(b1 44).size=1:=rfl;rw[e]at h1;omega
theorem Ns(h b:BY):(yg h b).size<=h.size+b.size+2:=by
 unfold yg;have e1:(b1 123).size=1:=rfl;have e2:(b1 125).size=1:=rfl;split
 .show 0<=_;omega
 .rw[ByteArray.size_append,ByteArray.size_append,ByteArray.size_append,e1,e2];omega
theorem aaJ[bV](hd:jm){p:aF}{rec:List Nd->BY}{r:Rule}(h:gL r.head)(hp:p.root.size<=12)(hrec:∀b,r.body=some b->(rec b).size<=300*dL b):(kE p rec r).size<=300*rwz r:=by
 obtain⟨at_,head,body⟩:=r;have hr:∀b,body=some b->(rec b).size<=300*dL b:=hrec;unfold kE rwz;cases at_ with
 |none=>
  show(Jm p head (body.getD [])).size<=300*(4*(none.getD aA).size+16+dL head+dL (body.getD []));unfold Jm;cases hs:Ot head with
  |none=>show 0<=_;omega
  |some ss=>have h1:=Ns (jV (jc p.root) ss) (tX p (body.getD []));have h2:=WU hd p.root ss (Gw _ _ _ (Sm _ h) hs) hp;have h3:=OM _ _ _ hs;have h4:=Jl p (body.getD []);have h5:=(Dl (body.getD [])).1;show(yg _ _).size<=_;omega
 |some w=>
  show(AZ p w body.isSome head (rec (body.getD []))).size<=300*(4*w.size+16+dL head+dL (body.getD []));unfold AZ;split
  .rename_i hc;cases body with
   |none=>simp at hc
   |some b=>have h0:=hr b rfl;show(yg _ (rec b)).size<=300*(4*w.size+16+dL head+dL b);have h1:=Ns (b1 64++(dP (small w)++qE (bare head))) (rec b);have h2:=fQ (small w);have h3:=Jf (bare head);have h4:=kU head;have e:(b1 64).size=1:=rfl;rw[ByteArray.size_append,ByteArray.size_append,e]at h1;rw[jE]at h2;omega
  .show 0<=_;omega
theorem uF[bV](hd:jm){p:aF}{rec:List Nd->BY}(hp:p.root.size<=12):∀(rs:List Rule),(∀r∈rs,gL r.head/\∀b,r.body=some b->(rec b).size<=300*dL b)->total (rs.map (kE p rec))<=300*Dp rs
 |[],_=>by simp[total]
 |r::q,h=>by have ih:=uF hd hp q fun x hx=>h x (by simp[hx]);have h0:=h r Aa;have h1:=aaJ hd h0.1 hp h0.2;simp only[List.map_cons,total,Dp];omega
theorem Ju:∀(l:List BY),aG l=cat l
 |[]=>rfl
 |a::r=>by show a++aG r=a++cat r;rw[Ju r]
theorem Jv:∀(l:List BY),(cat l).size=total l
 |[]=>rfl
 |a::r=>by show(a++cat r).size=a.size+total r;rw[ByteArray.size_append,Jv r]
theorem mP{sh:Bool}{l:List Nd}(hg:gL l):∀r∈rules sh l,gL r.head/\(r.at_=none->r.body.isSome=true)/\(∀b,r.body=some b->gL b/\depth b+1<=depth l)/\rwz r<=dL l:=fun r hr=>by have h1:=pO sh l;have h2:=h1.2 r hr;have h3:=YP _ r hr;exact⟨qw hg h2.head,h2.sty,fun b hb=>aju h2 hg hb,oo⟩
theorem Gy[bV]{p:aF}{rec:List Nd->BY}{sh:Bool}{l:List Nd}(hg:gL l):(rules sh l).map (kE p rec)=(rules sh l).map (H9 p rec):=List.map_congr_left fun r hr=>by have h:=mP hg r hr;exact agA h.1 h.2.1
theorem zh[bV](hd:jm)(p:aF)(hp:p.root.size<=12):∀(f:Nat) (sh:Bool) (l:List Nd),gL l->(tY p f sh l).size<=300*dL l
 |0,sh,l,hg=>by unfold tY;rw[Jv,<-Gy hg];have:=uF hd (rec:=fun _=>aA) hp (rules sh l) (fun r hr=>⟨(mP hg r hr).1,fun b _=>by show 0<=_;omega⟩);have:=(pO sh l).1;omega
 |f+1,sh,l,hg=>by unfold tY;rw[Jv,<-Gy hg];have:=uF hd (rec:=tY p f false) hp (rules sh l) (fun r hr=>⟨(mP hg r hr).1,fun b hb=>zh hd p hp f false b ((mP hg r hr).2.2.1 b hb).1⟩);have:=(pO sh l).1;omega
end
end Go.Proofs.YtlliliddljkbfaaGreat
namespace Go.Proofs.YtlliliddljkbfaaGreat.Sp
mutual
theorem alE(p:aF):∀(n:Nd),gN n->uN n->Qz (fun t=>!oI p t) n=false->vN p n
 |.mk t k,hg,hu,hh=>by simp only[gN]at hg;simp only[uN]at hu;unfold Qz at hh;rw[Bool.or_eq_false_iff]at hh;simp only[vN];have hk:=hg.2.1;unfold Qj at hk;simp at hk;exact⟨⟨hg.1,hk,by simpa using hh.1,hu.1.1,hu.1.2,hg.2.2.1⟩,Xr p k hg.2.2.2 hu.2 hh.2⟩
theorem Xr(p:aF):∀(l:List Nd),gL l->uL l->jg (fun t=>!oI p t) l=false->vL p l
 |[],_,_,_=>by simp[vL]
 |n::r,hg,hu,hh=>by simp only[gL]at hg;simp only[uL]at hu;unfold jg at hh;rw[Bool.or_eq_false_iff]at hh;exact⟨alE p n hg.1 hu.1 hh.1,Xr p r hg.2 hu.2 hh.2⟩
end
theorem aiu{p:aF}{l:List Nd}(hg:gL l)(hu:uL l)(hh:eH p l=true):vL p l:=Xr p l hg hu (by unfold eH at hh;simpa using hh)
theorem Dy:∀(f:Nat) (l:List Nd),gL l->∀d∈fF f l,0<d.prop.size
 |0,l,_=>by simp[fF]
 |f+1,[],_=>by simp[fF]
 |f+1,n::r,hg=>by
  have hr:gL r:=hg.2;unfold fF;split
  .exact Dy f r hr
  split
  .exact Dy f _ (qw hr fun m hm=>nR _ _ _ hm)
  .have h2:=Dy f (bG aS (n::r)).2.2 (qw hg fun m hm=>nR _ _ _ hm);simp only;split
   .exact h2
   .rename_i d0 hd0;intro d hd;rcases List.mem_cons.1 hd with e|e
    .subst e;unfold iI at hd0;split at hd0
     .cases hd0
     .rename_i m q hq;split at hd0
      .cases hd0
      .rename_i hk;split at hd0
       .cases hd0
       .split at hd0
        .cases hd0;have hm:gN m:=(yh _).1 hg m (yj _ _ _ (by rw[hq];simp));rw[Nq];exact((Ba m).1 hm).1.named (.inr (.inr (.inr (by simpa using hk))))
        .cases hd0
    .exact h2 d e
theorem qN(sh:Bool):∀(f:Nat) (l:List Nd),gL l->∀r∈fM f sh l,∀w,r.at_=some w->0<w.size
 |0,l,_=>by simp[fM]
 |f+1,[],_=>by simp[fM]
 |f+1,n::r,hg=>by
  have hr:gL r:=hg.2;unfold fM;split
  .exact qN sh f r hr
  split
  .rename_i hk;intro d hd w hw;simp only at hd;rcases List.mem_cons.1 hd with e|e
   .subst e;cases hw;exact((Ba n).1 hg.1).1.named (.inr (.inl hk))
   .exact qN sh f _ (qw hr fun m hm=>nR _ _ _ hm) d e w hw
  .simp only;split
   .simp
   .intro d hd w hw;rcases List.mem_cons.1 hd with e|e
    .subst e;cases hw
    .exact qN sh f _ (qw hg fun m hm=>nR _ _ _ hm) d e w hw
def ajC:List UInt8->Prop:=fun _=>True
theorem agL{X:List UInt8}(h:LZ X):iw (jy X):=by have:=zn h.1;exact⟨this.1,this.2.1,this.2.2.1,this.2.2.2.1⟩
theorem adN:ZX=b1 33++dP jw:=by decide
theorem adO{w:BY}(h:w.data.toList.all jh=true):gZ w=w.data.toList:=by
 have hl:∀(l:List UInt8) (i:Nat),(∀c∈l,jh c=true)->ny (dZ w) i l=l:=by
  intro l;induction l with
  |nil=>intro i _;rfl
  |cons c r ih=>
   intro i hc;have h1:=hc c Aa;unfold jh at h1;simp at h1;have hp:dZ w i c=true:=by unfold dZ;rw[if_neg (by unfold oV;simp;omega),if_neg (by intro e;rw[e]at h1;revert h1;decide)];unfold oU;simp;omega
   unfold ny;rw[if_pos hp,ih (i+1) fun x hx=>hc x (by simp[hx])];rfl
 exact hl _ _ (List.all_eq_true.1 h)
def rW(p:aF):List Pc:=if p.root=aA then [] else [.sign 46,.ident p.root,.blank]
theorem adP{p:aF}(h:p.root.data.toList.all jh=true):(Vw p).data.toList=flat (rW p):=by
 unfold Vw rW;split
 .rfl
 .rw[kV,kV];simp[flat,Pc.bytes,adO h,b1]
theorem aa1{w:BY}(h:w≠aA):0<w.size:=by
 rcases Nat.eq_zero_or_pos w.size with e|e
 .exact absurd (by apply ByteArray.ext;apply Array.toList_inj.1;exact List.eq_nil_of_length_eq_zero e) h
 .exact e
theorem Xt(p:aF)(X:List UInt8)(hX:aO (jy X)=false):Good (rW p) X:=by
 unfold rW;split
 .trivial
 .rename_i h;have h0:=aa1 h;refine⟨show(46:UInt8)∈lT by decide,⟨fun e=>absurd e (by decide),fun _=>?_,fun e=>absurd e (by decide),fun e=>absurd e (by decide)⟩,h0,nV (show iw 32 by unfold iw;decide),trivial,hX,trivial⟩;rw[qM];exact(Dx h0 _).2.2
theorem adQ{s:BY}(h:∀c∈s.data.toList,32<=c.toNat):clean s=s:=by
 have hc:∀k,k<=s.size->bC s k=s.data.toList.take k:=by
  intro k;induction k with
  |zero=>intro _;rfl
  |succ k ih=>
   intro hk;have hlt:k<s.data.toList.length:=by show k<s.size;omega
   have h32:32<=(s.data.toList[k]).toNat:=h _ (List.getElem_mem hlt);have hb:ZO s k=[s.data.toList[k]]:=by
    have e:s[k]'oo=s.data.toList[k]:=by rw[Array.getElem_toList];rfl
    unfold ZO;rw[dif_pos oo,e];have n13:s.data.toList[k]≠13:=fun q=>by rw[q]at h32;exact absurd h32 (by decide)
    have n12:s.data.toList[k]≠12:=fun q=>by rw[q]at h32;exact absurd h32 (by decide)
    have n0:s.data.toList[k]≠0:=fun q=>by rw[q]at h32;exact absurd h32 (by decide)
    rw[if_neg (fun q=>n13 q.1),if_neg (fun q=>q.elim n13 n12),if_neg n0]
   show bC s k++ZO s k=_;rw[ih oo,hb,List.take_succ_eq_append_getElem hlt]
 apply ByteArray.ext
 apply Array.toList_inj.1
 unfold clean;rw[hc _ nl,List.toList_toArray];exact List.take_of_length_le nl
