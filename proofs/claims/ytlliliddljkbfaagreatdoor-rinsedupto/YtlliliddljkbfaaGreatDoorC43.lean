import Derived.Test.YtlliliddljkbfaaGreatDoorC6
import Derived.Test.YtlliliddljkbfaaGreatDoorC39
import Derived.Test.YtlliliddljkbfaaGreatDoorC42
namespace Go.Proofs.YtlliliddljkbfaaGreatDoor
set_option maxHeartbeats 64000000
set_option maxRecDepth 100000
open Go.Proofs.Tryz (prog)
open Go.RowKit Sp
section
attribute [local go_sem] dH dI bQ bT
theorem Uz:∃i,prog.info? 204=some i/\i.zero=some (.agg #[.int .i64 0,.slice none 0 0])/\i.size=2/\i.bytes=32:=info_parts (by kernel_rfl)
theorem new2(w:World)(a b:Value)(t:TypeId):∀j u,[a,b][j]?=some u->(w.alloc (.cells #[a,b] t)).cell? ((⟨w.heap.size,0,none⟩:Addr).add j)=some u:=by intro j u hu;rw[Addr.add_lit,Nat.zero_add,World.cell?_alloc_mark,<-hu];simp
theorem rO{l:List Nd}{n:Nd}(h:n∈l.tail):n∈l:=List.mem_of_mem_tail h
theorem Qx{rec:List Nd->Option fC}{l:List Nd}{s:Simple}{r:List Nd}(h:jf rec l=some (s,r)):∀n∈r,n∈l:=by
 unfold jf at h;split at h
 .cases h;exact fun n hn=>rO hn
 .split at h
  .split at h
   .cases h;exact fun n hn=>rO (rO hn)
   .cases h
  .split at h
   .cases ha:dh (bare (hdN l).kids)with
    |none=>rw[ha]at h;cases h
    |some s'=>rw[ha]at h;cases h;exact fun n hn=>rO hn
   .cases ha:aK rec (hdN l.tail)with
    |none=>rw[ha]at h;cases h
    |some s'=>rw[ha]at h;cases h;exact fun n hn=>rO (rO hn)
theorem Qy(rec:List Nd->Option fC)(k:Nat):∀(acc:List Simple) (l:List Nd) (all:List Simple) (r:List Nd),l.length<=k->bD rec acc l=some (all,r)->(∀n∈r,n∈l)/\all.length+r.length<=acc.length+l.length:=by
 induction k with
 |zero=>intro acc l all r hl h;obtain rfl:l=[]:=List.eq_nil_of_length_eq_zero oo;rw[FM]at h;cases h;exact⟨fun _ h=>h,by simp⟩
 |succ k ih=>
  intro acc l all r hl h;rw[vO]at h;split at h
  .rename_i hfo;have hne:l≠[]:=by rintro rfl;rw[FY]at hfo;cases hfo
   cases hq:jf rec l with
   |none=>rw[hq]at h;cases h
   |some sr=>obtain⟨s,r1⟩:=sr;rw[hq]at h;have h1:=(yU hq hne).1;obtain⟨h2,h3⟩:=ih (acc++[s]) r1 all r oo h;exact⟨fun n hn=>Qx hq n (h2 n hn),by simp at h3;omega⟩
  .cases h;exact⟨fun _ h=>h,Nat.le_refl _⟩
theorem Ir{rec:List Nd->Option fC}{l:List Nd}{all:List Simple}{r:List Nd}(h:aJ rec l=some (all,r)):(∀n∈r,n∈l)/\all.length+r.length<=l.length:=by
 unfold aJ at h;obtain⟨h1,h2⟩:=Qy rec _ _ _ _ _ nl h;unfold oW at h1 h2;cases l with
 |nil=>exact⟨h1,by simpa using h2⟩
 |cons n q=>
  simp only at h1 h2;split at h1
  .rename_i hk;rw[if_pos hk]at h2;exact⟨fun x hx=>List.mem_cons_of_mem _ (h1 x hx),by simp at h2⊢;omega⟩
  .rename_i hk;rw[if_neg hk]at h2;split at h1
   .rename_i hs;rw[if_pos hs]at h2;exact⟨fun x hx=>List.mem_cons_of_mem _ (h1 x hx),by simp at h2⊢;omega⟩
   .rename_i hs;rw[if_neg hs]at h2;exact⟨h1,by simpa using h2⟩
theorem UA{l r:List Nd}{c:Nat}(h:gQ l=some (c,r)):(∀n∈r,n∈l)/\r.length<=l.length:=by
 have hd:∀x∈aC l,x∈l:=fun x hx=>rG l x hx;have hdl:=IB l;unfold gQ at h;cases hl:aC l with
 |nil=>
  rw[hl]at h;simp only at h;split at h
  .cases h
  .cases h;exact⟨by simp,by simp⟩
 |cons n q=>
  rw[hl]at h hd hdl;have hq:∀x∈aC q,x∈l:=fun x hx=>hd x (List.mem_cons_of_mem _ (rG q x hx));have hql:=IB q;simp only[List.length_cons]at hdl;simp only at h;repeat' split at h
  all_goals first
   |(cases h;exact⟨hq,oo⟩)
   |(cases h;exact⟨hd,by simp;omega⟩)
   |cases h
def cxP(f:Nat)(o:Option (List Step))(w w':World)(e:Ending):Prop:=
 match o with
 |none=>e=.returned (.tuple #[.slice none 0 0,.bool false])
 |some ss=>∃sv,e=.returned (.tuple #[sv,.bool true])/\SG (kU (dF f)) 2 (vV w.heap.size w') w' sv ss
structure CxI(f B b:Nat)(w:World)(d:List Nd)(u:Value)(ss:List Step)(c:Nat)(cur:List Nd)(k:Nat)(wr:World):Prop where
 row:MG (kU (dF f)) 2 204 w.heap.size wr u ss
 rdr:∃sv,iw B wr b sv cur
 turn:Turn b w wr
 eq:fD (aY f) d=(dR (aY f) k c cur).map (fun x=>ss++x)
 mem:∀n∈cur,n∈d
 fuel:cur.length+1<=k
 len:ss.length+k<=d.length+1
theorem rJ.sub{f:Nat}{l d:List Nd}(h:rJ f d)(hs:∀n∈l,n∈d):rJ f l:=fun n hn=>h n (hs n hn)
theorem NmL.sub{l d:List Nd}(h:NmL d)(hs:∀n∈l,n∈d):NmL l:=fun n hn=>h n (hs n hn)
theorem Iu(f:Nat)(hR:Io f)(B:Nat)(p:List Nd)(v:Value)(w:World)(h:Sl (fun b=>b<B) w v p)(hB:B<=w.heap.size)(hd:rJ f p)(hnm:NmL p):
  Calls prog 117 #[v] w fun e w'=>cxP f (fD (aY f) (bare p)) w w' e/\Below w.heap.size w w':=by
 have HS:Hid (Sl (fun b=>b<B) w v p):=h;have HR:Hid (Io f):=hR;obtain⟨d,Hd⟩:∃d,Hid (bare p=d):=⟨_,hid rfl⟩;have HD:Hid (rJ f d):=by rw[<-Hd.o];exact hd.sub (fun n hn=>FN p n hn)
 have Y1:Hid (NmL d):=by rw[<-Hd.o];exact hnm.sub (fun n hn=>FN p n hn)
 rw[Hd.o];clear h hR hd hnm;obtain⟨a,cap,rfl⟩:=HS.o.form;obtain⟨iT,hiT⟩:=Uz;have HI:Hid (prog.info? 204=some iT/\iT.zero=some (.agg #[.int .i64 0,.slice none 0 0])/\iT.size=2/\iT.bytes=32):=hiT;clear hiT;have hFS:Hid (Fair (kU (dF f))):=kU.fair (dF.fair f);go_in;go_wp2_with fail;refine(uP B p _ w HS.o).mono ?_;rw[Hd.o];rintro e w0 ⟨v1,rfl,hS1,rfl⟩;obtain⟨va,vc,rfl⟩:=hS1.form;have hd6:=hS1.len;have R1:Hid (iw B (w0.alloc (.cells #[.slice va d.length vc] 262)) w0.heap.size (.slice va d.length vc) d):=iw.new hS1 hB;have B1:Hid (Below w0.heap.size w0 (w0.alloc (.cells #[.slice va d.length vc] 262))):=(Below.refl _ _).alloc nl _;clear hS1 HS;go_upto_region 3 with fail
 generalize w0.alloc (.cells #[.slice va d.length vc] 262)=w1 at *;obtain⟨b,Hb⟩:∃b,Hid (w0.heap.size=b):=⟨_,hid rfl⟩;have R2:Hid (iw B w1 b (.slice va d.length vc) d):=by rw[<-Hb.o];exact R1
 clear R1;rw[Hb.o];have hbw:b<w1.heap.size:=R2.o.lt;have I0:Hid (CxI f B b w1 d (.slice none 0 0) [] 0 d (d.length+1) w1):=⟨MG.nil _ _ _ _ _,⟨_,R2.o⟩,Turn.refl _ _,by unfold fD;cases dR (aY f) (d.length+1) 0 d<;>simp,fun _ h=>h,Nat.le_refl _,by simp⟩;clear R2;go_wp2_with fail;go_loopg[4,6] (d.length+1) (fun gg v4 v6 wr=>∃(u:Value) (ss:List Step) (c:Nat) (cur:List Nd),u=v4/\v6=.int .i64 (Ja c)/\ss.length+gg<=601/\Aside (CxI f B b w1 d u ss c cur gg wr));case atStart=>exact⟨_,[],0,d,rfl,rfl,by simp;omega,I0.o⟩
 case round=>
  obtain⟨u,ss,c,cur,rfl,rfl,hlen,hA⟩:=hrel;have HC:Hid (CxI f B b w1 d u ss c cur gk wr):=hA.o;clear hA I0;obtain⟨ua,uc,rfl⟩:=HC.o.row.form;obtain⟨sv1,hR1⟩:=HC.o.rdr;have R1:Hid (iw B wr b sv1 cur):=hR1;clear hR1;have hsr:=HC.o.turn.size;obtain⟨k,rfl⟩:∃k,gk=k+1:=⟨gk-1,by have:=HC.o.fuel;omega⟩;go_wp2_with fail;refine(Qw f HR.o B b _ cur wr R1.o (HD.o.sub HC.o.mem) (Y1.o.sub HC.o.mem)).mono ?_;rintro e w2 ⟨hp,hT2⟩;have T2:Hid (Turn b w1 w2):=HC.o.turn.trans hT2;have M2:Hid (MG (kU (dF f)) 2 204 w1.heap.size w2 (.slice ua ss.length uc) ss):=HC.o.row.turn hFS.o hT2 hbw;have hs2:=hT2.size;clear hT2 R1;have BB:Hid (∀w',Turn b w1 w'->Below w0.heap.size w0 w'):=fun w' ht=>Turn.over B1.o ht (by rw[Hb.o];exact Nat.le_refl _);unfold cpP at hp;cases hq:aJ (aY f) cur with
  |none=>
   rw[hq]at hp;obtain⟨lv,RG,l2,rfl,hR2⟩:=hp;have HV:Hid (fD (aY f) d=none):=by show _=_;rw[HC.o.eq,xQ hq];rfl
   clear hq hR2;go_wp2_with fail;go_ret2
   exact⟨by rw[HV.o];rfl,BB.o _ T2.o⟩
  |some ar=>
   obtain⟨all,r⟩:=ar;rw[hq]at hp;obtain⟨lv,RG,rfl,hR2,hsg⟩:=hp;have R2:Hid (iw B w2 b RG r):=hR2;obtain⟨la,lc,rfl⟩:=hsg.form;have HQ:Hid (aJ (aY f) cur=some (all,r)):=hq;have OX:Hid (SG (dF f) 1 (vV wr.heap.size w2) w2 (.slice la all.length lc) all):=hsg;have adP:=Ir hq;have HSF:Hid ((∀n∈r,n∈cur)/\all.length+r.length<=cur.length):=adP;clear hq hR2 hsg adP;by_cases hal:all=[]
   .subst hal;have HV:Hid (fD (aY f) d=none):=by show _=_;rw[HC.o.eq,vM HQ.o];rfl
    go_wp2_with fail;go_ret2
    exact⟨by rw[HV.o];rfl,BB.o _ T2.o⟩
   .have aeP:0<all.length:=by cases all with|nil=>exact absurd rfl hal|cons x y=>simp
    have hdec:decide (0<all.length)=true:=by simpa using aeP
    have PA:∀o,Hid (kU (dF f) (oO w1.heap.size (w2.alloc o) (.slice ua ss.length uc)) (w2.alloc o) (c,all) [.int .i64 (Ja c),.slice la all.length lc]):=fun o=>HC.o.row.apart hFS.o (show kU (dF f) (vV wr.heap.size w2) w2 (c,all) [.int .i64 (Ja c),.slice la all.length lc] from⟨_,rfl,OX.o⟩) hsr (by simp) (fun g hg=>Below.heap_alloc _ _ _ hg);obtain⟨cs,hown,mG⟩:=(M2.o.alloc hFS.o (.cells #[.int .i64 (Ja c),.slice la all.length lc] 204));have HO:Hid ((w2.alloc (.cells #[.int .i64 (Ja c),.slice la all.length lc] 204)).ownsRow w1.heap.size 204 2 (.slice ua ss.length uc) ss.length cs):=hown;have HCt:Hid (jv (kU (dF f)) (oO w1.heap.size (w2.alloc (.cells #[.int .i64 (Ja c),.slice la all.length lc] 204)) (.slice ua ss.length uc)) (w2.alloc (.cells #[.int .i64 (Ja c),.slice la all.length lc] 204)) ss cs):=mG;clear hown mG;have adQ:Hid (all≠[]):=hal
    clear hal;go_wp2_with(at_builtin;go_must(refine wpList_append_own_at _ rfl _ _ 138 rfl w1.heap.size 204 iT (.agg #[.int .i64 0,.slice none 0 0]) 2 32 Tryz.underlying138 HI.o.1 HI.o.2.1 HI.o.2.2.1 HI.o.2.2.2 rfl oo (.slice ua ss.length uc) ss.length cs rfl HO.o ⟨w2.heap.size,0,none⟩ 1 1 [.int .i64 (Ja c),.slice la all.length lc] rfl rfl (new2 _ _ _ _) (by simp[Value.oneCell']) (by unfold maxLen;omega) oo (by simp;omega) ?_));intro v4 w4 hown4 bG _ fK;have hlo:∀rr,Value.ownBlock (.slice ua ss.length uc)=some rr->w1.heap.size<=rr:=fun rr hr=>(HO.o.lt rr hr).1;have hb4:Below w1.heap.size w2 w4:=((Below.refl _ _).alloc oo _).grown bG (by simp;omega) hlo;have M4:Hid (MG (kU (dF f)) 2 204 w1.heap.size w4 v4 (ss++[(c,all)])):=MG.snoc hFS.o HCt.o (PA _).o hown4 bG (by simpa using fK);have R4:Hid (iw B w4 b RG r):=by have hr:=R2.o.alloc (.cells #[.int .i64 (Ja c),.slice la all.length lc] 204);exact⟨by rw[bG.block b (by simp;omega) (fun e=>by have:=hlo b e.symm;omega)];exact hr.blk,hr.sl.keep (fun _ hg=>hg) (fun g hg=>by have hg':g<B:=hg;have:=hr.lo;exact bG.block g (by simp;omega) (fun e=>by have:=hlo g e.symm;omega)),hr.lo⟩
    have T4:Hid (Turn b w1 w4):=T2.o.trans' hb4;have hs4:=T4.o.size;obtain⟨fa,fc,rfl⟩:=M4.o.form;have M5:Hid (MG (kU (dF f)) 2 204 w1.heap.size w4 (.slice fa (ss.length+1) fc) (ss++[(c,all)])):=by have:=M4.o;rw[List.length_append]at this;exact this
    clear M4;clear hown4 bG fK hb4 hlo;go_wp2_with fail;refine(sJ B b _ r _ R4.o).mono ?_;rintro e w5 ⟨rfl,rfl⟩;by_cases hr:r=[]
    .subst hr;have HV:Hid (fD (aY f) d=some (ss++[(c,all)])):=by show _=_;rw[HC.o.eq,xR HQ.o adQ.o];rfl
     have HG:Hid (SG (kU (dF f)) 2 (vV w0.heap.size w5) w5 (.slice fa (ss.length+1) fc) (ss++[(c,all)])):=(M5.o.sl hFS.o (kU.sized _) (by simp;omega)).keep hFS.o (vN B1.o.size) fun _ _=>rfl;go_wp2_with fail;go_ret2
     exact⟨by rw[HV.o];exact⟨_,rfl,HG.o⟩,BB.o _ T4.o⟩
    .have hrl:(r.length==0)=false:=by cases r with|nil=>exact absurd rfl hr|cons x y=>rfl
     have HRN:Hid (r≠[]):=hr;clear hr;go_wp2_with fail;refine(J4 B b _ r _ R4.o).mono ?_;rintro e w6 ⟨sv6,l6,MX,KL,hcb⟩;have T6:Hid (Turn b w1 w6):=T4.o.trans KL;have M6:Hid (MG (kU (dF f)) 2 204 w1.heap.size w6 (.slice fa (ss.length+1) fc) (ss++[(c,all)])):=M5.o.turn hFS.o KL hbw;have R6:Hid (iw B w6 b sv6 l6):=MX;clear MX KL;rcases hcb with⟨hcn,rfl⟩|⟨c2,hcs,rfl⟩
     .have HV:Hid (fD (aY f) d=none):=by show _=_;rw[HC.o.eq,Dc HQ.o HRN.o hcn];rfl
      clear hcn;go_wp2_with fail;go_ret2
      exact⟨by rw[HV.o];rfl,BB.o _ T6.o⟩
     .have hcs2:=UA hcs;have AX:Hid (CxI f B b w1 d (.slice fa (ss.length+1) fc) (ss++[(c,all)]) c2 l6 k w6):=⟨M6.o,⟨_,R6.o⟩,T6.o,by
        rw[HC.o.eq,xU HQ.o adQ.o HRN.o hcs,Option.map_map];congr 1
        funext x
        simp,fun n hn=>HC.o.mem n (HSF.o.1 n (hcs2.1 n hn)),by have:=HC.o.fuel;have:=HSF.o.2;have:=hcs2.2;omega,by have:=HC.o.len;simp;omega⟩
      clear hcs hcs2;go_wp2_with fail;go_roundg k;case measure=>omega
      case rel=>exact⟨_,ss++[(c,all)],c2,l6,rfl,rfl,by simp;omega,AX.o⟩
end
section
attribute [local go_sem] dH dI bQ bT
theorem Sl.aeQ{S:Nat->Prop}{w:World}{a:Option Addr}{n cap:Nat}{ns:List Nd}(h:Sl S w (.slice a n cap) ns)(i j:Nat)(hij:i<=j)(hj:j<=ns.length):
  ∃a' c',(∀W:World,(Instr.slice 111 (.slice a n cap) (some (.int .i64 (i:Int))) (some (.int .i64 (j:Int))) none).run prog W=.ok (.slice a' (j-i) c') W)/\Sl S w (.slice a' (j-i) c') ((ns.take j).drop i):=by
 obtain⟨iT,h1,_,h3,_⟩:=zy;have hc:ns.length<=cap:=by obtain⟨_,_,e,hc,_⟩:=h;cases e;exact hc.1
 refine⟨if cap=i then a else a.map (·.add (i*4)),cap-i,fun W=>?_,?_⟩
 .rw[run_slice_lh (P:=prog) W 111 a n cap Tryz.underlying111 .i64 .i64 i j oo oo oo];have e:prog.elem 111=168:=by kernel_rfl
  simp[sizeOf,typeInfo,e,h1,h3,sliced,Result.andThen]
 .have:=h.cut i j hij hj;simpa[sliced]using this
theorem Sl.adR{S:Nat->Prop}{w:World}{a:Option Addr}{cap:Nat}{ns:List Nd}(h:Sl S w (.slice a ns.length cap) ns)(i:Nat)(hi:i<=ns.length):
  ∃a' c',(∀W:World,(Instr.slice 111 (.slice a ns.length cap) (some (.int .i64 (i:Int))) none none).run prog W=.ok (.slice a' (ns.length-i) c') W)/\Sl S w (.slice a' (ns.length-i) c') (ns.drop i):=by
 obtain⟨iT,h1,_,h3,_⟩:=zy;refine⟨if cap=i then a else a.map (·.add (i*4)),cap-i,fun W=>?_,?_⟩
 .rw[run_slice_l (P:=prog) W 111 a ns.length cap Tryz.underlying111 .i64 i oo oo];have e:prog.elem 111=168:=by kernel_rfl
  simp[sizeOf,typeInfo,e,h1,h3,sliced,Result.andThen]
 .have:=h.cut i ns.length hi nl;rw[List.take_of_length_le nl]at this;simpa[sliced]using this
theorem XG:∃i,prog.info? 111=some i/\i.zero=some (.slice none 0 0)/\i.size=1/\i.bytes=24:=info_parts (by kernel_rfl)
theorem yY.low{B B':Nat}{w w':World}{l:List (List Nd)}{vs:List Value}(h:yY (fun b=>b<B) w l vs)(hb:Below B' w w')(hB:B<=B'):yY (fun b=>b<B) w' l vs:=h.keep (fun _ hg=>hg) fun g hg=>hb.block g (Nat.lt_of_lt_of_le hg hB)
structure SpI(B:Nat)(w:World)(l:List Nd)(u:Value)(ps:List (List Nd))(vs:List Value)(bg i:Nat)(wr:World):Prop where
 row:wr.ownsRow w.heap.size 111 1 u ps.length vs
 sls:yY (fun b=>b<B) wr ps vs
 below:Below w.heap.size w wr
 eq:parted l=kW ps ((l.take i).drop bg) (l.drop i)
 bi:bg<=i/\i<=l.length
 ln:ps.length<=bg
theorem aaf(B:Nat)(l:List Nd)(v:Value)(w:World)(h:Sl (fun b=>b<B) w v l)(hB:B<=w.heap.size):
  Calls prog 116 #[v,.string (b1 44)] w fun e w'=>∃v' vs,e=.returned v'/\w'.ownsRow w.heap.size 111 1 v' (parted l).length vs/\yY (fun b=>b<B) w' (parted l) vs/\Below w.heap.size w w':=by
 have Cc:=h.len;have HS:Hid (Sl (fun b=>b<B) w v l):=h;obtain⟨a,cap,rfl⟩:=h.form;clear h;obtain⟨iT,hiT⟩:=XG;have HI:Hid (prog.info? 111=some iT/\iT.zero=some (.slice none 0 0)/\iT.size=1/\iT.bytes=24):=hiT;clear hiT;go_in;go_wp2_with fail;go_loopg[5,6,11] l.length (fun gg v5 v6 v11 wr=>∃(u:Value) (ps:List (List Nd)) (vs:List Value) (bg i:Nat),u=v5/\v6=.int .i64 (bg:Int)/\v11=.int .i64 (i:Int)/\i+gg=l.length/\bg<=i/\ps.length<=bg/\Aside (SpI B w l u ps vs bg i wr));case atStart=>exact⟨_,[],[],0,0,rfl,rfl,rfl,oo,oo,by simp,World.ownsRow_nil _ _ _ _,rfl,Below.refl _ _,by simp[parted],⟨oo,oo⟩,by simp⟩
 case round=>
  obtain⟨u,ps,vs,bg,i,rfl,rfl,rfl,hi,hbi,hpb,hA⟩:=hrel;have HC:Hid (SpI B w l u ps vs bg i wr):=hA.o;clear hA;obtain⟨ua,uc,rfl⟩:=iL HC.o.row;have hsr:=HC.o.below.size;by_cases hlt:i<l.length
  .have h1:(i:Int)<(l.length:Int):=oo;have S1:=HS.o.below HC.o.below hB;obtain⟨g,o,rfl,hL,hcap⟩:=S1.here (by rintro rfl;simp at hlt);obtain⟨kv,hN⟩:=hL.node (i:=i) hlt;obtain⟨n,hn⟩:∃n,n=l[i]:=⟨_,rfl⟩;have Hdr:Hid (l.drop i=n::l.drop (i+1)):=by show _=_;rw[hn];exact List.drop_eq_getElem_cons hlt
   have Htk:Hid ((l.take (i+1)).drop bg=(l.take i).drop bg++[n]):=by show _=_;rw[List.take_succ_eq_append_getElem hlt,<-hn,List.drop_append_of_le_length (by simp;omega)]
   rw[<-hn]at hN;obtain⟨ka,kc,rfl⟩:=hN.k.form;have d0:=hN.c0;have d1:=hN.c1;have d2:=hN.c2;have d3:=hN.c3;have hgB:g<B:=hN.s;clear hN hL S1 hn;have A2:Hid (VB (wr.alloc (.cells #[.int .i64 n.t.kind,.string n.t.word,.string n.t.unit,.slice ka n.kids.length kc] 168)) wr.heap.size (.int .i64 n.t.kind) (.string n.t.word) (.string n.t.unit) (.slice ka n.kids.length kc)):=VB.new _ _ _ _ _;have B2:Hid (Below wr.heap.size wr (wr.alloc (.cells #[.int .i64 n.t.kind,.string n.t.word,.string n.t.unit,.slice ka n.kids.length kc] 168))):=(Below.refl _ _).alloc nl _;go_upto_region 6 with fail
   generalize wr.alloc (.cells #[.int .i64 n.t.kind,.string n.t.word,.string n.t.unit,.slice ka n.kids.length kc] 168)=w2 at *;obtain⟨gt,oU⟩:∃gt,Hid (wr.heap.size=gt):=⟨_,hid rfl⟩;have A3:Hid (VB w2 gt (.int .i64 n.t.kind) (.string n.t.word) (.string n.t.unit) (.slice ka n.kids.length kc)):=by rw[<-oU.o];exact A2
   rw[oU.o];clear A2 d0 d1 d2 d3;obtain⟨a0,a1,a2,a3⟩:=A3.o.cs;go_wp2_with fail;refine pmb (jU n.t _ (b1 44) _) fun w3 hb3=>?_;have B3:Hid (Below wr.heap.size wr w3):=B2.o.trans (hb3.mono B2.o.size);clear hb3 a0 a1 a2 a3 A3 B2;have C3:Hid (SpI B w l (.slice ua ps.length uc) ps vs bg i w3):=⟨aX HC.o.row fun k hk=>B3.o.block k (HC.o.row.lt k hk).2,HC.o.sls.low B3.o oo,HC.o.below.trans (B3.o.mono hsr),HC.o.eq,HC.o.bi,HC.o.ln⟩;have hs3:=C3.o.below.size;clear HC B3;obtain⟨s1,DW⟩:∃s,Hid (ay n.t (b1 44)=s):=⟨_,hid rfl⟩;rw[DW.o];cases s1
   .have Du:Hid (SpI B w l (.slice ua ps.length uc) ps vs bg (i+1) w3):=⟨C3.o.row,C3.o.sls,C3.o.below,by rw[C3.o.eq,Hdr.o,Htk.o];simp only[kW,dY,DW.o];simp,⟨oo,oo⟩,C3.o.ln⟩;go_wp2_with fail;go_roundg(l.length-(i+1));case measure=>omega
    case rel=>exact⟨_,ps,vs,bg,i+1,rfl,rfl,by congr 1,oo,oo,hpb,Du.o⟩
   .obtain⟨ca,cc,hrun,hcs⟩:=(HS.o.below C3.o.below hB).aeQ bg i hbi oo;have HCS:Hid (Sl (fun b=>b<B) w3 (.slice ca (i-bg) cc) ((l.take i).drop bg)):=hcs;have HRW:Hid ((w3.alloc (.cells #[.slice ca (i-bg) cc] 111)).ownsRow w.heap.size 111 1 (.slice ua ps.length uc) ps.length vs):=C3.o.row.alloc _;clear hcs;have q0:(0:Int)<=(bg:Int):=oo;have q1:(bg:Int)<=(i:Int):=oo;go_wp2_with(at_builtin;go_must(refine wpList_append_own_at _ rfl _ _ 197 rfl w.heap.size 111 iT (.slice none 0 0) 1 24 Tryz.underlying197 HI.o.1 HI.o.2.1 HI.o.2.2.1 HI.o.2.2.2 rfl oo (.slice ua ps.length uc) ps.length vs rfl HRW.o ⟨w3.heap.size,0,none⟩ 1 1 [.slice ca (i-bg) cc] rfl rfl (rM _ _ _) (by simp[Value.oneCell']) (by unfold maxLen;omega) oo (by simp;omega) ?_));intro v4 w4 hown4 bG _ fK
    have hlo:∀rr,Value.ownBlock (.slice ua ps.length uc)=some rr->w.heap.size<=rr:=fun rr hr=>(HRW.o.lt rr hr).1;have hb4:Below w.heap.size w3 w4:=((Below.refl _ _).alloc hs3 _).grown bG (by simp;omega) hlo;have Du:Hid (SpI B w l v4 (ps++[(l.take i).drop bg]) (vs++[.slice ca (i-bg) cc]) (i+1) (i+1) w4):=⟨by rw[List.length_append];exact hown4,yY.snoc _ _ (C3.o.sls.low hb4 hB) _ _ (HCS.o.below hb4 hB),C3.o.below.trans hb4,by
      rw[C3.o.eq,Hdr.o];simp only[kW,dY,DW.o,if_true];congr 1
      rw[List.drop_of_length_le (by simp;omega)],⟨Nat.le_refl _,oo⟩,by have:=C3.o.ln;simp;omega⟩
    have hl4:(ps++[(l.take i).drop bg]).length<=i+1:=Du.o.ln;clear hown4 bG fK hb4 hlo;go_wp2_with fail;go_roundg(l.length-(i+1));case measure=>omega
    case rel=>exact⟨_,_,_,i+1,i+1,rfl,by congr 1,by congr 1,oo,oo,hl4,Du.o⟩
  .have h1:(l.length:Int)<=(i:Int):=oo;obtain rfl:i=l.length:=oo;obtain⟨ca,cc,hrun,hcs⟩:=(HS.o.below HC.o.below hB).adR bg oo;have HCS:Hid (Sl (fun b=>b<B) wr (.slice ca (l.length-bg) cc) (l.drop bg)):=hcs;have HRW:Hid ((wr.alloc (.cells #[.slice ca (l.length-bg) cc] 111)).ownsRow w.heap.size 111 1 (.slice ua ps.length uc) ps.length vs):=HC.o.row.alloc _;clear hcs;have q0:(0:Int)<=(bg:Int):=oo;have q1:(bg:Int)<=(l.length:Int):=oo;go_wp2_with(at_builtin;go_must(refine wpList_append_own_at _ rfl _ _ 197 rfl w.heap.size 111 iT (.slice none 0 0) 1 24 Tryz.underlying197 HI.o.1 HI.o.2.1 HI.o.2.2.1 HI.o.2.2.2 rfl oo (.slice ua ps.length uc) ps.length vs rfl HRW.o ⟨wr.heap.size,0,none⟩ 1 1 [.slice ca (l.length-bg) cc] rfl rfl (rM _ _ _) (by simp[Value.oneCell']) (by unfold maxLen;omega) oo (by simp;omega) ?_));intro v4 w4 hown4 bG _ fK
   have hlo:∀rr,Value.ownBlock (.slice ua ps.length uc)=some rr->w.heap.size<=rr:=fun rr hr=>(HRW.o.lt rr hr).1;have hb4:Below w.heap.size wr w4:=((Below.refl _ _).alloc hsr _).grown bG (by simp;omega) hlo;have HE:Hid (parted l=ps++[l.drop bg]):=by show _=_;rw[HC.o.eq,List.drop_of_length_le nl,List.take_of_length_le nl];rfl
   have HO4:Hid (w4.ownsRow w.heap.size 111 1 v4 (parted l).length (vs++[.slice ca (l.length-bg) cc])):=by rw[HE.o,List.length_append];exact hown4
   have HS4:Hid (yY (fun b=>b<B) w4 (parted l) (vs++[.slice ca (l.length-bg) cc])):=by rw[HE.o];exact yY.snoc _ _ (HC.o.sls.low hb4 hB) _ _ (HCS.o.below hb4 hB)
   have HB4:Hid (Below w.heap.size w w4):=HC.o.below.trans hb4;clear hown4 bG fK hb4 hlo;go_wp2_with fail;go_ret;exact⟨_,_,rfl,HO4.o,HS4.o,HB4.o⟩
end
section
attribute [local go_sem] dH dI bQ bT
theorem Sl.ok{S:Nat->Prop}{w:World}{v:Value}{ns:List Nd}(h:Sl S w v ns):∀n∈ns,cZ n.t:=by intro n hn;obtain⟨a,cap,rfl⟩:=h.form;obtain⟨g,o,rfl,hL,_⟩:=h.here (by rintro rfl;simp at hn);obtain⟨i,hi,e⟩:=List.getElem_of_mem hn;obtain⟨kv,hN⟩:=hL.node (i:=i) hi;rw[<-e];exact hN.ok
theorem NR{t:Tok}(h:t.kind=11):closing t≠aA:=by unfold closing;rw[if_pos h];decide
theorem Qz{f:Nat}{l:List Nd}(h:depth l<=f):∀p∈parted l,∀n∈p,n.t.kind=11->depth n.kids+1<=f:=by intro p hp n hn hk;have h1:jS n<=f:=wH l [] [] (fun n=>jS n<=f) (by simp) (by simp) (fun n hn=>Nat.le_trans (mP l n hn) h) p hp n hn;rw[mY (NR hk)]at h1;exact h1
theorem XH:∃i,prog.info? 138=some i/\i.zero=some (.slice none 0 0)/\i.size=1/\i.bytes=24:=info_parts (by kernel_rfl)
structure RlI(f B:Nat)(w w1:World)(l:List Nd)(vs:List Value)(pv:Value)(u:Value)(ss:fC)(i:Nat)(wr:World):Prop where
 row:MG (KN (dF f)) 1 138 w1.heap.size wr u ss
 ab5:wr.ownsRow w.heap.size 111 1 pv (parted l).length vs
 sls:yY (fun b=>b<B) wr (parted l) vs
 below:Below w1.heap.size w1 wr
 eq:jT (aY f) (parted l)=(jT (aY f) ((parted l).drop i)).map (fun x=>ss++x)
 ln:ss.length=i
 plt:∀k,pv.ownBlock=some k->k<w1.heap.size
theorem RZ(f:Nat)(hR:Io f):Qn f:=by
 intro B l v w hd h hB;have HS:Hid (Sl (fun b=>b<B) w v l):=h;have HR:Hid (Io f):=hR;have HD:Hid (depth l<=f):=hd;obtain⟨a,cap,rfl⟩:=h.form;clear h hR hd;obtain⟨iT,hiT⟩:=XH;have HI:Hid (prog.info? 138=some iT/\iT.zero=some (.slice none 0 0)/\iT.size=1/\iT.bytes=24):=hiT;clear hiT;have hF:Hid (Fair (KN (dF f))):=One.fair (kU.fair (dF.fair f));have HL:Hid (ny f l=tX (aY f) l):=JV f l;obtain⟨ps,yZ⟩:∃ps,Hid (parted l=ps):=⟨_,hid rfl⟩;have hpl:ps.length<=601:=by have:=FP l;rw[yZ.o]at this;have:=HS.o.len;omega
 go_in;go_wp2_with fail;refine(aaf B l _ w HS.o hB).mono ?_;rw[yZ.o];rintro e w1 ⟨pv,vs,rfl,hrow,adS,hb1⟩;obtain⟨qa,qc,rfl⟩:=iL hrow;have B1:Hid (Below w.heap.size w w1):=hb1;have hw1:=hb1.size;have I0:Hid (RlI f B w w1 l vs (.slice qa ps.length qc) (.slice none 0 0) [] 0 w1):=⟨MG.nil _ _ _ _ _,by rw[yZ.o];exact hrow,by rw[yZ.o];exact adS,Below.refl _ _,by simp,rfl,fun k hk=>(hrow.lt k hk).2⟩;clear hrow adS hb1 HS;by_cases h8:8<ps.length
 .have h8':(8:Int)<(ps.length:Int):=oo;have HV:Hid (ny f l=none):=by show _=_;rw[HL.o];unfold tX;rw[yZ.o,if_pos h8]
  go_wp2_with fail;go_ret2
  exact⟨by unfold rdP;rw[HV.o];rfl,B1.o⟩
 .have h8':(ps.length:Int)<=8:=oo;have HV:Hid (ny f l=jT (aY f) ps):=by show _=_;rw[HL.o];unfold tX;rw[yZ.o,if_neg h8]
  go_wp2_with fail;go_loopg[5,17] ps.length (fun gg v5 v17 wr=>∃(u:Value) (ss:fC) (i:Nat),u=v5/\v17=.int .i64 (i:Int)/\i+gg=ps.length/\ss.length<=601/\Aside (RlI f B w w1 l vs (.slice qa ps.length qc) u ss i wr));case atStart=>exact⟨_,[],0,rfl,rfl,oo,by simp,I0.o⟩
  case round=>
   obtain⟨u,ss,i,rfl,rfl,hi,adD,hA⟩:=hrel;have HC:Hid (RlI f B w w1 l vs (.slice qa ps.length qc) u ss i wr):=hA.o;clear hA I0;obtain⟨ua,uc,rfl⟩:=HC.o.row.form;have hsr:=HC.o.below.size;by_cases hlt:i<ps.length
   .have h1:(i:Int)<(ps.length:Int):=oo;have hsl:=HC.o.sls;have hpr:=HC.o.ab5;rw[yZ.o]at hsl hpr;obtain⟨pvi,hvi,hpi⟩:=yY.at ps vs hsl i hlt;obtain⟨g,c',hq⟩:∃g c',Value.slice qa ps.length qc=.slice (some ⟨g,0,none⟩) ps.length c':=by
     rcases hpr.2 with⟨hv,hn⟩|⟨g,c',_,hv,_⟩
     .omega
     .exact⟨g,c',hv⟩
    injection hq with hq1 _ hq2
    subst hq1 hq2;obtain⟨p,Hp⟩:∃p,Hid (ps[i]=p):=⟨_,hid rfl⟩;rw[Hp.o]at hpi;have c0:wr.cell? ⟨g,i,none⟩=some pvi:=by have:=hpr.cells (g:=g) rfl i pvi hvi;rwa[Addr.add_lit,Nat.zero_add]at this
    have hpm:p∈parted l:=by rw[yZ.o,<-Hp.o];exact List.getElem_mem _
    have HDP:Hid (rJ f p):=fun n hn=>⟨Qz HD.o p hpm n hn,by have:=(hpi.ok n hn).word;omega⟩;have HNP:Hid (NmL p):=fun n hn hk=>(hpi.ok n hn).named (.inr (.inr (.inr hk)));obtain⟨pa,pc,rfl⟩:=hpi.form;have HPI:Hid (Sl (fun b=>b<B) wr (.slice pa p.length pc) p):=hpi;have HE:Hid ((parted l).drop i=p::(parted l).drop (i+1)):=by show _=_;rw[yZ.o,List.drop_eq_getElem_cons hlt,Hp.o]
    clear hsl hpr hvi hpi hpm;go_wp2_with fail;refine(Iu f HR.o B p _ wr HPI.o oo HDP.o HNP.o).mono ?_;rintro e w2 ⟨hcp,hb2⟩;have B2:Hid (Below w1.heap.size w1 w2):=HC.o.below.trans (hb2.mono hsr);have M2:Hid (MG (KN (dF f)) 1 138 w1.heap.size w2 (.slice ua ss.length uc) ss):=HC.o.row.below hF.o hb2;have P2:Hid (w2.ownsRow w.heap.size 111 1 (.slice (some ⟨g,0,none⟩) ps.length qc) (parted l).length vs):=aX HC.o.ab5 fun k hk=>hb2.block k (HC.o.ab5.lt k hk).2;have S2:Hid (yY (fun b=>b<B) w2 (parted l) vs):=HC.o.sls.low hb2 oo;have hs2:=hb2.size;clear hb2;unfold cxP at hcp;cases hx:fD (aY f) (bare p)with
    |none=>
     rw[hx]at hcp;subst hcp;have HN:Hid (ny f l=none):=by show _=_;rw[HV.o,<-yZ.o,HC.o.eq,HE.o,FQ hx];rfl
     clear hx;go_wp2_with fail;go_ret2
     exact⟨by unfold rdP;rw[HN.o];rfl,B1.o.trans (B2.o.mono hw1)⟩
    |some cx=>
     rw[hx]at hcp;obtain⟨sv,rfl,hsg⟩:=hcp;obtain⟨sa,sc,rfl⟩:=hsg.form;have HN:Hid (jT (aY f) (parted l)=(jT (aY f) ((parted l).drop (i+1))).map (fun x=>(ss++[cx])++x)):=by
      show _=_;rw[HC.o.eq,HE.o,FU hx,Option.map_map];congr 1
      funext x
      simp
     have PA:∀o,Hid (KN (dF f) (oO w1.heap.size (w2.alloc o) (.slice ua ss.length uc)) (w2.alloc o) cx [.slice sa cx.length sc]):=fun o=>HC.o.row.apart hF.o (show KN (dF f) (vV wr.heap.size w2) w2 cx [.slice sa cx.length sc] from⟨_,rfl,hsg⟩) hsr (by simp) (fun g hg=>Below.heap_alloc _ _ _ hg);obtain⟨cs,hown,mG⟩:=(M2.o.alloc hF.o (.cells #[.slice sa cx.length sc] 138));have HO:Hid ((w2.alloc (.cells #[.slice sa cx.length sc] 138)).ownsRow w1.heap.size 138 1 (.slice ua ss.length uc) ss.length cs):=hown;have HCt:Hid (jv (KN (dF f)) (oO w1.heap.size (w2.alloc (.cells #[.slice sa cx.length sc] 138)) (.slice ua ss.length uc)) (w2.alloc (.cells #[.slice sa cx.length sc] 138)) ss cs):=mG;clear hx hsg hown mG
     go_wp2_with(at_builtin;go_must(refine wpList_append_own_at _ rfl _ _ 80 rfl w1.heap.size 138 iT (.slice none 0 0) 1 24 Tryz.underlying80 HI.o.1 HI.o.2.1 HI.o.2.2.1 HI.o.2.2.2 rfl oo (.slice ua ss.length uc) ss.length cs rfl HO.o ⟨w2.heap.size,0,none⟩ 1 1 [.slice sa cx.length sc] rfl rfl (rM _ _ _) (by simp[Value.oneCell']) (by unfold maxLen;omega) oo (by simp;omega) ?_));intro v4 w4 hown4 bG _ fK;have hlo:∀rr,Value.ownBlock (.slice ua ss.length uc)=some rr->w1.heap.size<=rr:=fun rr hr=>(HO.o.lt rr hr).1;have hb4:Below w1.heap.size w2 w4:=((Below.refl _ _).alloc oo _).grown bG (by simp;omega) hlo;have Du:Hid (RlI f B w w1 l vs (.slice (some ⟨g,0,none⟩) ps.length qc) v4 (ss++[cx]) (i+1) w4):=⟨MG.snoc hF.o HCt.o (PA _).o hown4 bG (by simpa using fK),aX P2.o fun k hk=>by
       have hk1:k=g:=by simp[Value.ownBlock]at hk;exact hk.symm
       have hg1:g<w1.heap.size:=HC.o.plt g rfl;exact hb4.block k oo,S2.o.low hb4 oo,B2.o.trans hb4,HN.o,by have:=HC.o.ln;simp;omega,HC.o.plt⟩
     clear hown4 bG fK hb4 hlo;go_wp2_with fail;go_roundg(ps.length-(i+1));case measure=>omega
     case rel=>exact⟨_,ss++[cx],i+1,rfl,by congr 1,oo,by have:=HC.o.ln;simp;omega,Du.o⟩
   .have h1:(ps.length:Int)<=(i:Int):=oo;have HN:Hid (ny f l=some ss):=by
     show _=_;rw[HV.o,<-yZ.o,HC.o.eq,List.drop_of_length_le (by rw[yZ.o];omega)];simp[jT]
    have HG:Hid (SG (KN (dF f)) 1 (vV w.heap.size wr) wr (.slice ua ss.length uc) ss):=(HC.o.row.sl hF.o (One.sized _ _) oo).keep hF.o (vN hw1) fun _ _=>rfl;go_wp2_with fail;go_ret2
    exact⟨by unfold rdP;rw[HN.o];exact⟨_,rfl,HG.o⟩,B1.o.trans (HC.o.below.mono hw1)⟩
theorem NS:∀f,Qn f
 |0=>RZ 0 trivial
 |f+1=>RZ (f+1) (NS f)
end
end Go.Proofs.YtlliliddljkbfaaGreatDoor
