import Derived.Test.YtlliliddljkbfaaGreatC5
set_option maxHeartbeats 64000000
set_option maxRecDepth 100000
namespace Go.Proofs.YtlliliddljkbfaaGreat
open Go.Proofs.Tryz (prog)
open Go.RowKit Sp
section
attribute [local go_sem] bI bJ aX aY
theorem Q4.put{T:TypeId}{w:WD}{b:Nat}{x0 x1 x2 x3:Av}(h:Q4 T w b x0 x1 x2 x3)(y0 y1 y2 y3:Av):Q4 T (qF w b y0 y1 y2 y3) b y0 y1 y2 y3:=by have h':w.heap[b]?=_:=h;show _=_;simp only[qF,World.setCell,Array.getElem?_modify,h'];simp
theorem xR{at_:BY}{hd:List Nd}{bo:Option (List Nd)}{rest:List Nd}(h:bo.isSome=true\/at_≠aA):∃rr,nM (at_,hd,bo,rest)=[rr]/\rr.at_.getD aA=at_/\rr.head=hd/\rr.body=bo:=by
 unfold nM;by_cases he:at_=aA
 .rcases h with h|h
  .cases bo with
   |none=>cases h
   |some b=>exact⟨_,by simp only[he,if_true];rfl,by simp[he],rfl,rfl⟩
  .exact absurd he h
 .exact⟨_,by simp only[if_neg he];rfl,rfl,rfl,rfl⟩
theorem Rk{at_:BY}{hd:List Nd}{bo:Option (List Nd)}{rest:List Nd}{rr:Rule}(h:nM (at_,hd,bo,rest)=[rr]){x:BY}(hx:rr.at_=some x):x≠aA:=by
 unfold nM at h;by_cases he:at_=aA
 .simp only[he,if_true]at h;cases bo with
  |none=>cases h
  |some b=>cases h;cases hx
 .simp only[if_neg he]at h;cases h;cases hx;exact he
theorem agk{α:Type}{C:wV α}{sz:Nat}{T:TypeId}{base L:Nat}{w:WD}{v:Av}{l:List α}{cs:List Av}{S:Nat->Prop}(hL:L<=base)(hF:Fair C)(hZ:ug C sz)(h1:w.ownsRow base T sz v l.length cs)(h2:jC C S w l cs)(hS:∀g,S g->oD L w g)(h6:l.length<=2097152):SG C sz (oD L w) w v l:=by
 have h3:jC C (oD L w) w l cs:=h2.keep hF hS (fun _ _=>rfl);rcases h1.2 with⟨rfl,hn⟩|⟨g,cap,cur,rfl,hbg,hg,hnc,hrest⟩
 .have:l=[]:=List.eq_nil_of_length_eq_zero hn;subst this;exact SG.iE _ _ _ _ _ _
 .refine⟨_,cap,rfl,⟨hnc,h6⟩,fun _=>⟨g,0,rfl,jC.lies (S:=oD L w) hZ ⟨Nat.le_trans hL hbg,(Ax hg)⟩ l cs 0 h3 fun j u hu=>?_⟩⟩;have:=h1.cells (g:=g) rfl j u hu;rw[Addr.add_lit,Nat.zero_add]at this;rw[Nat.zero_add];exact this
structure VX(L B:Nat)(sh:Bool)(w:WD)(l:List Nd)(u:Av)(acc:List Rule)(cs:List Av)(cv:Av)(cur:List Nd)(wr:WD):Prop where
 row:wr.ownsRow w.heap.size 130 4 u acc.length cs
 cat:jC dB (Rg L B) wr acc cs
 now:Sl (Rg L B) wr cv cur
 below:Below w.heap.size w wr
 eq:rules sh l=acc++rules sh cur
 ln:acc.length+cur.length<=l.length
theorem Nb(L B:Nat)(sh:Bool)(l:List Nd)(v:Av)(zs:List Int)(sg:Nat)(w:WD)(h:Sl (Rg L B) w v l)(hB:B<=w.heap.size)(hz:zs.length<=10)(hsg:sg<w.heap.size)
  (hc:∀j,j<zs.length->w.cell? ⟨sg,0+j,none⟩=some (.int .i64 (zs.getD j 0))) (hp:∀n:Nd,zs.contains n.t.kind=oG sh n) (hLw:L<=w.heap.size):
  Calls prog 115 #[v,.slice (some ⟨sg,0,none⟩) zs.length zs.length] w fun e w'=>∃u,e=.returned u/\SG dB 4 (oD L w') w' u (rules sh l)/\Below w.heap.size w w':=by
 have FU:=h.len;have HS:=hid h;have HC:=hid hc;have HP:=hid hp;obtain⟨a,cap,rfl⟩:=h.form;clear h hc hp;obtain⟨iT,hiT⟩:=aap;have HI:=hid hiT;clear hiT;go_in;go_wp2_with fail;go_loopg[0,5] l.length (fun gg v0 v5 wr=>∃(u cv:Av) (acc:List Rule) (cs:List Av) (cur:List Nd),u=v5/\cv=v0/\cur.length<=gg/\acc.length<=600/\Aside (VX L B sh w l u acc cs cv cur wr));case atStart=>exact⟨_,_,[],[],l,rfl,rfl,oo,by simp,World.ownsRow_nil _ _ _ _,rfl,HS.o,As,rfl,by simp⟩
 case round=>
  obtain⟨u,cv,acc,cs,cur,rfl,rfl,hcl,hal,hA⟩:=hrel;have HR:Hid (VX L B sh w l u acc cs cv cur wr):=hA.o;clear hA;obtain⟨ua,uc,rfl⟩:=kQ HR.o.row;have hsr:=HR.o.below.size;cases cur with
  |nil=>
   obtain⟨ca,cc,rfl⟩:=HR.o.now.form;have HV:Hid (rules sh l=acc):=by show _=_;rw[HR.o.eq];exact List.append_nil _
   go_wp2_with fail;go_ret;exact⟨_,rfl,by rw[HV.o];exact agk hLw dB.fair dB.sized HR.o.row HR.o.cat (fun g hg=>⟨hg.1,by have:=hg.2;omega⟩) oo,HR.o.below⟩
  |cons n r=>
   obtain⟨g,o,nv,cap',rfl,hN,hcap⟩:=HR.o.now.head;have c0:=hN.c0;have FY:=hid hN.ok;clear hN;have h1:(0:Int)<((r.length+1:Nat):Int):=oo;simp only[List.length_cons]at hcl;have IE:∀j,j<zs.length->wr.cell? ⟨sg,0+j,none⟩=some (.int .i64 (zs.getD j 0)):=fun j hj=>by rw[HR.o.below.cell (p:=⟨sg,_,none⟩) hsg];exact HC.o j hj
   have HCT:=Tryz.slices_Contains_int sg 0 zs.length zs.length zs n.t.kind wr nl oo IE;rw[List.take_of_length_le nl,HP.o n]at HCT;obtain⟨z,Hz⟩:=Nm (oG sh n);rw[Hz.o]at HCT;have agj:=hid HCT;clear HCT IE;obtain⟨a1,hr1,hS1⟩:=HR.o.now.MH;have HS1:=hid hS1;clear hS1;have hln:=HR.o.ln;simp only[List.length_cons]at hln;go_wp2_with fail;refine agj.o.mono ?_;rintro e wq ⟨rfl,hwq⟩;rw[hwq];clear hwq agj;cases z
   .clear hr1 HS1;obtain⟨⟨at_,hd,bo,rest⟩,Ho⟩:∃o,Hid (iY n r=o):=⟨_,hid rfl⟩;have HNM:Hid (n.t.kind=10->n.t.word≠aA):=fun hk e=>by have:=FY.o.named (.inr (.inl hk));rw[e]at this;exact absurd this (by decide)
    have Qh:Hid (rules sh l=acc++(nM (at_,hd,bo,rest)++rules sh rest)):=by show _=_;rw[HR.o.eq,aao Hz.o HNM.o,Ho.o]
    have HRL:rest.length<=r.length:=by
     have e:(iY n r).2.2.2=rest:=by rw[Ho.o]
     rw[<-e];unfold iY;split
     .have:=jF (fun m=>aS m||aK m) r;show(bG _ r).2.2.length<=_;omega
     .have:=jF aK (n::r);simp only[List.length_cons]at this;show(bG _ (n::r)).2.2.length<=_;omega
    have HLN:Hid (acc.length+1+rest.length<=l.length):=by show _<=_;omega
    have HAT:Hid (at_.size<=4000000):=by
     have e:(iY n r).1=at_:=by rw[Ho.o]
     rw[<-e];unfold iY;split
     .exact FY.o.word
     .show 0<=_;omega
    have Q2:Hid (Q4 130 (wr.alloc (.cells #[.string ⟨#[]⟩,.slice none 0 0,.bool false,.slice none 0 0] 130)) wr.heap.size (.string ⟨#[]⟩) (.slice none 0 0) (.bool false) (.slice none 0 0)):=Q4.new _ _ _ _ _ _;have X2:Hid (Below wr.heap.size wr (wr.alloc (.cells #[.string ⟨#[]⟩,.slice none 0 0,.bool false,.slice none 0 0] 130))):=As.alloc nl _;go_upto_region 6 with fail
    generalize wr.alloc (.cells #[.string ⟨#[]⟩,.slice none 0 0,.bool false,.slice none 0 0] 130)=w2 at *;obtain⟨gt,mV⟩:=Nm wr.heap.size;have Q3:Hid (Q4 130 w2 gt (.string ⟨#[]⟩) (.slice none 0 0) (.bool false) (.slice none 0 0)):=by rw[<-mV.o];exact Q2.o
    rw[mV.o];clear Q2;have hs2:=X2.o.size;go_wp2_with fail;refine(VU L B n r _ w2 (HR.o.now.vO X2.o oo) oo).mono ?_;rw[Ho.o];rintro e w3 ⟨hv,bv,v2,rfl,Rj,hbh,hb3⟩;obtain⟨va,vc,rfl⟩:=Rj.head.form;obtain⟨bl,hbl,hbe⟩:=Rj.body;obtain⟨ka,kc,rfl⟩:=hbl.form;obtain⟨ba,bc,rfl⟩:=hbh.form;have X3:=hid (X2.o.trans (hb3.mono hs2));have QQ3:=hid (Q3.o.below hb3);have HA3:=hid Rj.head;have HB3:=hid hbh;have HK3:=hid hbl;have VT:=hid hbe;have hs3:=X3.o.size;clear Rj hbl hbe hbh hb3 Q3 c0;obtain⟨hs,Hhs⟩:=Nm bo.isSome;rw[Hhs.o];have hlg:=QQ3.o.lt
    have hgB:∀k,k<B->(qF w3 gt (.string at_) (.slice va hd.length vc) (.bool hs) (.slice ka bl.length kc)).heap[k]?=w3.heap[k]?:=fun k hk=>jv w3 (by have:=mV.o;omega) _ _ _ _;have BW4:Hid (Below w.heap.size w (qF w3 gt (.string at_) (.slice va hd.length vc) (.bool hs) (.slice ka bl.length kc))):=oO (HR.o.below.trans (X3.o.mono hsr)) (by have:=mV.o;omega) _ _ _ _;have R4:Hid ((qF w3 gt (.string at_) (.slice va hd.length vc) (.bool hs) (.slice ka bl.length kc)).ownsRow w.heap.size 130 4 (.slice ua acc.length uc) acc.length cs):=aP HR.o.row fun k hk=>by have:=(HR.o.row.lt k hk).2;rw[jv w3 (by have:=mV.o;omega)];exact X3.o.block k this
    have CT4:Hid (jC dB (Rg L B) (qF w3 gt (.string at_) (.slice va hd.length vc) (.bool hs) (.slice ka bl.length kc)) acc cs):=HR.o.cat.keep dB.fair (fun _ h=>h) (fun k hk=>by have hk':k<B:=hk.2;rw[hgB k hk'];exact X3.o.block k oo);have HA4:Hid (Sl (Rg L B) (qF w3 gt (.string at_) (.slice va hd.length vc) (.bool hs) (.slice ka bl.length kc)) (.slice va hd.length vc) hd):=HA3.o.keep (fun _ h=>h) (fun k hk=>hgB k hk.2);have HB4:Hid (Sl (Rg L B) (qF w3 gt (.string at_) (.slice va hd.length vc) (.bool hs) (.slice ka bl.length kc)) (.slice ba rest.length bc) rest):=HB3.o.keep (fun _ h=>h) (fun k hk=>hgB k hk.2);have HK4:Hid (Sl (Rg L B) (qF w3 gt (.string at_) (.slice va hd.length vc) (.bool hs) (.slice ka bl.length kc)) (.slice ka bl.length kc) bl):=HK3.o.keep (fun _ h=>h) (fun k hk=>hgB k hk.2)
    have Q5:Hid (Q4 130 (qF w3 gt (.string at_) (.slice va hd.length vc) (.bool hs) (.slice ka bl.length kc)) gt (.string at_) (.slice va hd.length vc) (.bool hs) (.slice ka bl.length kc)):=QQ3.o.put _ _ _ _;have ATN:Hid (∀rr:Rule,nM (at_,hd,bo,rest)=[rr]->∀x,rr.at_=some x->x≠aA):=fun rr h x hx=>Rk h hx;have z0:=QQ3.o.fz 0;have z1:=QQ3.o.fz 1;have z2:=QQ3.o.fz 2;have z3:=QQ3.o.fz 3;obtain⟨q0,q1,q2,q3⟩:=QQ3.o.cs;go_upto_region 7 with fail
    change Code.wp _ _ _ _ (qF w3 gt (.string at_) (.slice va hd.length vc) (.bool hs) (.slice ka bl.length kc));have hs4:=BW4.o.size;clear q0 q1 q2 q3 z0 z1 z2 z3 hgB HA3 HB3 HK3;generalize qF w3 gt (.string at_) (.slice va hd.length vc) (.bool hs) (.slice ka bl.length kc)=w4 at *;obtain⟨q0,q1,q2,q3⟩:=Q5.o.cs;by_cases he:at_.toList=[]
    .have Vf:Hid (at_=aA):=by
      show at_=aA;have:=ay at_ [];rw[he]at this;exact of_decide_eq_true this.symm
     cases hs
     .have HMK:Hid (nM (at_,hd,bo,rest)=[]):=by
       show _=_;unfold nM;rw[if_pos Vf.o];cases hb:bo with
       |none=>rfl
       |some b=>have:=Hhs.o;rw[hb]at this;cases this
      have OA:Hid (VX L B sh w l (.slice ua acc.length uc) acc cs (.slice ba rest.length bc) rest w4):=⟨R4.o,CT4.o,HB4.o,BW4.o,by rw[Qh.o,HMK.o];rfl,by have:=HLN.o;omega⟩;go_wp2_with fail;go_roundg(gk-1);case measure=>omega
      case rel=>exact⟨_,_,acc,cs,rest,rfl,rfl,oo,hal,OA.o⟩
     .have HMK:=xR (hd:=hd) (rest:=rest) (at_:=at_) (.inl Hhs.o);obtain⟨rr,Hrr,Gx,YG,Hbo⟩:=HMK;have HRR:=hid Hrr;have HO5:Hid ((w4.alloc (.cells #[.string at_,.slice va hd.length vc,.bool true,.slice ka bl.length kc] 130)).ownsRow w.heap.size 130 4 (.slice ua acc.length uc) acc.length cs):=R4.o.alloc _;go_wp2_with(at_builtin;go_must(refine wpList_append_own_at _ rfl _ _ 85 rfl w.heap.size 130 iT (.agg #[.string ⟨#[]⟩,.slice none 0 0,.bool false,.slice none 0 0]) 4 72 Tryz.underlying85 HI.o.1 HI.o.2.1 HI.o.2.2.1 HI.o.2.2.2 rfl oo (.slice ua acc.length uc) acc.length cs rfl HO5.o ⟨w4.heap.size,0,none⟩ 1 1 [.string at_,.slice va hd.length vc,.bool true,.slice ka bl.length kc] rfl rfl (Vu _ _ _ _ _ _) (by simp[Value.oneCell']) Ao oo Al ?_));intro v6 w6 hown6 lS _ aaq
      have hlo:∀rr,Value.ownBlock (.slice ua acc.length uc)=some rr->w.heap.size<=rr:=fun rr hr=>(HO5.o.lt rr hr).1;have hb6:Below w.heap.size w4 w6:=(As.alloc hs4 _).grown lS Al hlo;have OA:Hid (VX L B sh w l v6 (acc++[rr]) (cs++[.string at_,.slice va hd.length vc,.bool true,.slice ka bl.length kc]) (.slice ba rest.length bc) rest w6):=⟨by rw[List.length_append];exact hown6,jC.snoc _ _ (CT4.o.keep dB.fair (fun _ h=>h) (fun k hk=>hb6.block k (Nat.lt_of_lt_of_le hk.2 hB))) rr _ ⟨_,_,bl,by rw[Gx,Hbo,Hhs.o],by rw[YG];exact HA4.o.vO hb6 hB,HK4.o.vO hb6 hB,fun b hb=>VT.o b (by rw[<-Hbo];exact hb),fun x hx=>⟨fun e=>by rw[hx,e]at Gx;exact ATN.o rr HRR.o x hx e,by have:=HAT.o;rw[hx]at Gx;simp at Gx;rw[Gx];exact this⟩⟩,HB4.o.vO hb6 hB,BW4.o.trans hb6,by rw[Qh.o,HRR.o,List.append_assoc],by have:=HLN.o;simp;omega⟩
      have FU:(acc++[rr]).length<=600:=by have:=OA.o.ln;omega
      clear hown6 lS aaq hlo hb6;go_wp2_with fail;go_roundg(gk-1);case measure=>omega
      case rel=>exact⟨_,_,acc++[rr],_,rest,rfl,rfl,oo,FU,OA.o⟩
    .have Vf:Hid (at_≠aA):=fun e=>he (by rw[e,fC];rfl);have hie:at_.toList.isEmpty=false:=by cases hq:at_.toList with|nil=>exact absurd hq he|cons _ _=>rfl
     have hib:(at_.toList==[])=false:=by cases hq:at_.toList with|nil=>exact absurd hq he|cons _ _=>rfl
     have hin:(at_.toList != [])=true:=by rw[bne,hib];rfl
     cases hs;focus
      have HMK:=xR (hd:=hd) (rest:=rest) (bo:=bo) (.inr Vf.o);obtain⟨rr,Hrr,Gx,YG,Hbo⟩:=HMK;have HRR:=hid Hrr;have HO5:Hid ((w4.alloc (.cells #[.string at_,.slice va hd.length vc,.bool false,.slice ka bl.length kc] 130)).ownsRow w.heap.size 130 4 (.slice ua acc.length uc) acc.length cs):=R4.o.alloc _;go_wp2_with(at_builtin;go_must(refine wpList_append_own_at _ rfl _ _ 85 rfl w.heap.size 130 iT (.agg #[.string ⟨#[]⟩,.slice none 0 0,.bool false,.slice none 0 0]) 4 72 Tryz.underlying85 HI.o.1 HI.o.2.1 HI.o.2.2.1 HI.o.2.2.2 rfl oo (.slice ua acc.length uc) acc.length cs rfl HO5.o ⟨w4.heap.size,0,none⟩ 1 1 [.string at_,.slice va hd.length vc,.bool false,.slice ka bl.length kc] rfl rfl (Vu _ _ _ _ _ _) (by simp[Value.oneCell']) Ao oo Al ?_));intro v6 w6 hown6 lS _ aaq
      have hlo:∀rr,Value.ownBlock (.slice ua acc.length uc)=some rr->w.heap.size<=rr:=fun rr hr=>(HO5.o.lt rr hr).1;have hb6:Below w.heap.size w4 w6:=(As.alloc hs4 _).grown lS Al hlo;have OA:Hid (VX L B sh w l v6 (acc++[rr]) (cs++[.string at_,.slice va hd.length vc,.bool false,.slice ka bl.length kc]) (.slice ba rest.length bc) rest w6):=⟨by rw[List.length_append];exact hown6,jC.snoc _ _ (CT4.o.keep dB.fair (fun _ h=>h) (fun k hk=>hb6.block k (Nat.lt_of_lt_of_le hk.2 hB))) rr _ ⟨_,_,bl,by rw[Gx,Hbo,Hhs.o],by rw[YG];exact HA4.o.vO hb6 hB,HK4.o.vO hb6 hB,fun b hb=>VT.o b (by rw[<-Hbo];exact hb),fun x hx=>⟨fun e=>by rw[hx,e]at Gx;exact ATN.o rr HRR.o x hx e,by have:=HAT.o;rw[hx]at Gx;simp at Gx;rw[Gx];exact this⟩⟩,HB4.o.vO hb6 hB,BW4.o.trans hb6,by rw[Qh.o,HRR.o,List.append_assoc],by have:=HLN.o;simp;omega⟩
     rotate_left;focus
      have HMK:=xR (hd:=hd) (rest:=rest) (bo:=bo) (.inr Vf.o);obtain⟨rr,Hrr,Gx,YG,Hbo⟩:=HMK;have HRR:=hid Hrr;have HO5:Hid ((w4.alloc (.cells #[.string at_,.slice va hd.length vc,.bool true,.slice ka bl.length kc] 130)).ownsRow w.heap.size 130 4 (.slice ua acc.length uc) acc.length cs):=R4.o.alloc _;go_wp2_with(at_builtin;go_must(refine wpList_append_own_at _ rfl _ _ 85 rfl w.heap.size 130 iT (.agg #[.string ⟨#[]⟩,.slice none 0 0,.bool false,.slice none 0 0]) 4 72 Tryz.underlying85 HI.o.1 HI.o.2.1 HI.o.2.2.1 HI.o.2.2.2 rfl oo (.slice ua acc.length uc) acc.length cs rfl HO5.o ⟨w4.heap.size,0,none⟩ 1 1 [.string at_,.slice va hd.length vc,.bool true,.slice ka bl.length kc] rfl rfl (Vu _ _ _ _ _ _) (by simp[Value.oneCell']) Ao oo Al ?_));intro v6 w6 hown6 lS _ aaq
      have hlo:∀rr,Value.ownBlock (.slice ua acc.length uc)=some rr->w.heap.size<=rr:=fun rr hr=>(HO5.o.lt rr hr).1;have hb6:Below w.heap.size w4 w6:=(As.alloc hs4 _).grown lS Al hlo;have OA:Hid (VX L B sh w l v6 (acc++[rr]) (cs++[.string at_,.slice va hd.length vc,.bool true,.slice ka bl.length kc]) (.slice ba rest.length bc) rest w6):=⟨by rw[List.length_append];exact hown6,jC.snoc _ _ (CT4.o.keep dB.fair (fun _ h=>h) (fun k hk=>hb6.block k (Nat.lt_of_lt_of_le hk.2 hB))) rr _ ⟨_,_,bl,by rw[Gx,Hbo,Hhs.o],by rw[YG];exact HA4.o.vO hb6 hB,HK4.o.vO hb6 hB,fun b hb=>VT.o b (by rw[<-Hbo];exact hb),fun x hx=>⟨fun e=>by rw[hx,e]at Gx;exact ATN.o rr HRR.o x hx e,by have:=HAT.o;rw[hx]at Gx;simp at Gx;rw[Gx];exact this⟩⟩,HB4.o.vO hb6 hB,BW4.o.trans hb6,by rw[Qh.o,HRR.o,List.append_assoc],by have:=HLN.o;simp;omega⟩
     rotate_left;all_goals
      have FU:(acc++[rr]).length<=600:=by have:=OA.o.ln;omega
      clear hown6 lS aaq hlo hb6;go_wp2_with fail;go_roundg(gk-1);case measure=>omega
      case rel=>exact⟨_,_,acc++[rr],_,rest,rfl,rfl,oo,FU,OA.o⟩
   .have FZ:Hid (VX L B sh w l (.slice ua acc.length uc) acc cs (.slice a1 r.length (cap'-1)) r wr):=⟨HR.o.row,HR.o.cat,HS1.o,HR.o.below,by rw[HR.o.eq,VW Hz.o],oo⟩;go_wp2_with fail;go_roundg(gk-1);case measure=>omega
    case rel=>exact⟨_,_,acc,cs,r,rfl,rfl,oo,hal,FZ.o⟩
theorem Nc(B:Nat)(sh:Bool)(l:List Nd)(v:Av)(zs:List Int)(sg:Nat)(w:WD)(h:Sl (fun b=>b<B) w v l)(hB:B<=w.heap.size)(hz:zs.length<=10)(hsg:sg<w.heap.size)
  (hc:∀j,j<zs.length->w.cell? ⟨sg,0+j,none⟩=some (.int .i64 (zs.getD j 0))) (hp:∀n:Nd,zs.contains n.t.kind=oG sh n):
  Calls prog 115 #[v,.slice (some ⟨sg,0,none⟩) zs.length zs.length] w fun e w'=>∃u,e=.returned u/\SG dB 4 (fun b=>b<w'.heap.size) w' u (rules sh l)/\Below w.heap.size w w':=by
 refine(Nb 0 B sh l v zs sg w (h.keep (fun _ hb=>⟨Nat.zero_le _,hb⟩) (fun _ _=>rfl)) hB hz hsg hc hp (Nat.zero_le _)).mono ?_;rintro e w' ⟨u,h1,h2,h3⟩;exact⟨u,h1,h2.keep dB.fair (fun _ hb=>hb.2) (fun _ _=>rfl),h3⟩
end
section
attribute [local go_sem] bI bJ aX aY
theorem IG(n:Nd):([1,8,9]:List Int).contains n.t.kind=oG true n:=by unfold oG iH;rw[Bool.eq_iff_iff];simp
theorem aar(n:Nd):([1]:List Int).contains n.t.kind=oG false n:=by unfold oG iH;rw[Bool.eq_iff_iff];simp
theorem Rl(B:Nat)(l:List Nd)(v:Av)(w:WD)(h:Sl (fun b=>b<B) w v l)(hB:B<=w.heap.size):
  Calls prog 69 #[v] w fun e w'=>∃u,e=.returned u/\SG dB 4 (fun b=>b<w'.heap.size) w' u (rules true l)/\Below w.heap.size w w':=by
 obtain⟨a,cap,rfl⟩:=h.form;have B1:Hid (Below w.heap.size w (w.alloc (.cells #[.int .i64 1,.int .i64 8,.int .i64 9] 3))):=As.alloc nl _;have S1:=hid (h.below B1.o hB);have IE:Hid (∀j,j<3->(w.alloc (.cells #[.int .i64 1,.int .i64 8,.int .i64 9] 3)).cell? ⟨w.heap.size,0+j,none⟩=some (.int .i64 (([1,8,9]:List Int).getD j 0))):=by intro j hj;have hh:(w.alloc (.cells #[.int .i64 1,.int .i64 8,.int .i64 9] 3)).heap[w.heap.size]?=_:=heap_alloc_new w _;unfold World.cell?;rw[hh];rcases(show j=0\/j=1\/j=2 by omega)with rfl|rfl|rfl<;>rfl
 clear h;go_in;go_wp2_with fail;have hlt1:w.heap.size<(w.alloc (.cells #[.int .i64 1,.int .i64 8,.int .i64 9] 3)).heap.size:=by simp
 generalize w.alloc (.cells #[.int .i64 1,.int .i64 8,.int .i64 9] 3)=w1 at *;refine(Nc B true l _ [1,8,9] _ w1 S1.o oo Aa hlt1 IE.o IG).mono ?_;rintro e w2 ⟨u,rfl,hsg,hb2⟩;obtain⟨ua,uc,rfl⟩:=hsg.form;have B2:=hid (B1.o.trans (hb2.mono oo));have Rn:=hid hsg;clear hsg hb2;go_wp2_with fail;go_ret;exact⟨_,rfl,Rn.o,B2.o⟩
theorem Ro(B:Nat)(l:List Nd)(v:Av)(w:WD)(h:Sl (fun b=>b<B) w v l)(hB:B<=w.heap.size):
  Calls prog 121 #[v] w fun e w'=>∃u,e=.returned u/\SG dB 4 (fun b=>b<w'.heap.size) w' u (rules false l)/\Below w.heap.size w w':=by
 obtain⟨a,cap,rfl⟩:=h.form;have B1:Hid (Below w.heap.size w (w.alloc (.cells #[.int .i64 1] 3))):=As.alloc nl _;have S1:=hid (h.below B1.o hB);have IE:Hid (∀j,j<1->(w.alloc (.cells #[.int .i64 1] 3)).cell? ⟨w.heap.size,0+j,none⟩=some (.int .i64 (([1]:List Int).getD j 0))):=by intro j hj;have hh:(w.alloc (.cells #[.int .i64 1] 3)).heap[w.heap.size]?=_:=heap_alloc_new w _;unfold World.cell?;rw[hh];obtain rfl:j=0:=oo;rfl
 clear h;go_in;go_wp2_with fail;have hlt1:w.heap.size<(w.alloc (.cells #[.int .i64 1] 3)).heap.size:=by simp
 generalize w.alloc (.cells #[.int .i64 1] 3)=w1 at *;refine(Nc B false l _ [1] _ w1 S1.o oo Aa hlt1 IE.o aar).mono ?_;rintro e w2 ⟨u,rfl,hsg,hb2⟩;obtain⟨ua,uc,rfl⟩:=hsg.form;have B2:=hid (B1.o.trans (hb2.mono oo));have Rn:=hid hsg;clear hsg hb2;go_wp2_with fail;go_ret;exact⟨_,rfl,Rn.o,B2.o⟩
theorem VY(p:BY):Lib.hasPrefix p.data.toList [45,45]=custom p:=by have h:=xI p [45,45] 0;rw[List.drop_zero]at h;unfold Lib.hasPrefix;rw[h];show(pk p 0==45&&(pk p 1==45&&true))=(decide (pk p 0=45)&&decide (pk p 1=45));rw[Bool.and_true];rfl
theorem rE(p:BY)(w:WD):Calls prog 64 #[.string p] w fun e w'=>e=.returned (.bool (custom p))/\w'=w:=by have HV:Hid (Lib.hasPrefix p.data.toList [45,45]=custom p):=VY p;go_in;go_wp2_with fail;refine pmb (Tryz.strings_HasPrefix p ⟨#[45,45]⟩ w) fun wq hwq=>?_;rw[hwq];go_wp2_with fail;go_ret;exact⟨aC HV.o,rfl⟩
theorem II(p:BY)(w:WD)(hp:p.size<=4000000):Calls prog 38 #[.string p] w fun e w'=>e=.returned (.string (jM p))/\Below w.heap.size w w':=by
 obtain⟨z,Hz⟩:=Nm (custom p);have hc:=rE p w;rw[Hz.o]at hc;have HC:=hid hc;clear hc;cases z
 .have HV:Hid (jM p=small p):=by show _=_;unfold jM;rw[Hz.o];rfl
  go_in;go_wp2_with fail;refine HC.o.mono ?_;rintro e wq ⟨rfl,hwq⟩;rw[hwq];go_wp2_with fail;refine pmb (nH p _ hp) fun w3 hb3=>?_;have B3:=hid hb3;clear hb3;go_wp2_with fail;go_ret;exact⟨mg HV.o.symm,B3.o⟩
 .have HV:Hid (jM p=p):=by show _=_;unfold jM;rw[Hz.o];rfl
  go_in;go_wp2_with fail;refine HC.o.mono ?_;rintro e wq ⟨rfl,hwq⟩;rw[hwq];go_wp2_with fail;go_ret;exact⟨mg HV.o.symm,As⟩
end
section
attribute [local go_sem] bI bJ aX aY
theorem last_at{α:Type}{l:List α}(h:0<l.length):l.getLast?=some (l[l.length-1]'oo):=by rw[List.getLast?_eq_getElem?,List.getElem?_eq_getElem oo]
theorem dropLast_take{α:Type}(l:List α):l.dropLast=l.take (l.length-1):=List.dropLast_eq_take
theorem aas{v:List Nd}(h:0<v.length)(hw:ru (v[v.length-1]'oo) jw=false):gW v=(v,false):=by unfold gW;rw[last_at h];simp only;rw[if_neg (by rw[hw];simp)]
theorem Rq{v:List Nd}(h:0<v.length)(hw:ru (v[v.length-1]'oo) jw=true)(hb:bare (v.take (v.length-1))=[]):gW v=(v,false):=by unfold gW;rw[last_at h];simp only;rw[if_pos hw,dropLast_take,hb];rfl
theorem Rt{v b:List Nd}(h:0<v.length)(hw:ru (v[v.length-1]'oo) jw=true)(hb:bare (v.take (v.length-1))=b)(h2:0<b.length):gW v=if dN (b[b.length-1]'oo) (b1 33)=true then(bare (b.take (b.length-1)),true) else(v,false):=by unfold gW;rw[last_at h];simp only;rw[if_pos hw,dropLast_take,hb,last_at h2,dropLast_take]
theorem IJ(B:Nat)(l:List Nd)(v:Av)(w:WD)(h:Sl (fun b=>b<B) w v l)(hB:B<=w.heap.size):
  Calls prog 226 #[v] w fun e w'=>∃v',e=.returned (.tuple #[v',.bool (gW l).2])/\Sl (fun b=>b<B) w' v' (gW l).1/\Below w.heap.size w w':=by
 have FU:=h.len;have HS:=hid h;obtain⟨a,cap,rfl⟩:=h.form;clear h;by_cases hz:l.length=0
 .obtain rfl:l=[]:=List.eq_nil_of_length_eq_zero hz;clear hz;go_in;go_wp2_with fail;go_ret2
  exact⟨_,rfl,HS.o,As⟩
 .have hp:0<l.length:=oo;obtain⟨g,o,rfl,hL,hcap⟩:=HS.o.here (by rintro rfl;simp at hp);obtain⟨kv,hN⟩:=hL.node (i:=l.length-1) oo;obtain⟨n,hn⟩:∃n,n=l[l.length-1]'oo:=⟨_,rfl⟩;rw[<-hn]at hN;have HN:Hid (ru (l[l.length-1]'oo) jw=ru (.mk n.t []) jw):=by show _=_;rw[<-hn];rfl
  obtain⟨ka,kc,rfl⟩:=hN.k.form;have d0:=hN.c0;have d1:=hN.c1;have d2:=hN.c2;have d3:=hN.c3;have hwd:=hN.ok.word;clear hN hL hn;obtain⟨m,Hm⟩:=Nm (l.length-1);have hm:(l.length:Int)-1=(m:Int):=by have:=Hm.o;omega
  have hwm:IntKind.i64.wrap ((l.length:Int)-1)=(m:Int):=by rw[IntKind.wrap_i64];omega
  have hml:(m:Int)<(l.length:Int):=oo;have hmn:m<l.length:=oo;rw[Hm.o]at d0 d1 d2 d3;obtain⟨z,Hz⟩:=Nm (ru (.mk n.t []) jw);have HW:=Q8 n.t (.slice ka n.kids.length kc) jw w hwd;rw[Hz.o]at HW;have HW':Hid (Calls prog 161 #[fB n.t (.slice ka n.kids.length kc),.string jw] w fun e w'=>e=.returned (.bool z)/\Below w.heap.size w w'):=HW;clear HW;have hm0:(0:Int)<=(m:Int):=oo;go_in;go_wp2_with fail;refine HW'.o.mono ?_;rintro e w1 ⟨rfl,hb1⟩;have B1:=hid hb1;have hs1:=hb1.size;clear hb1 HW' d0 d1 d2 d3;cases z
  .have HV:Hid (gW l=(l,false)):=aas hp (by rw[HN.o];exact Hz.o);go_wp2_with fail;go_ret2
   exact⟨_,by rw[HV.o];rfl,by rw[HV.o];exact HS.o.below B1.o hB,B1.o⟩
  .have S1:=HS.o.below B1.o hB;obtain⟨hr1,hS1⟩:=S1.ajd m oo;have HST:=hid hS1;clear hS1 S1;have hlt:(l.take m).length=m:=by rw[List.length_take];omega
   go_wp2_with fail;refine(tu B (l.take m) _ w1 HST.o).mono ?_;obtain⟨b,Hb⟩:=Nm (bare (l.take m));rw[Hb.o];rintro e w2 ⟨v2,rfl,hS2,hw2⟩;subst hw2;have HS2:=hid hS2;have hl2:=hS2.len;obtain⟨a2,c2,rfl⟩:=hS2.form;clear hS2 hr1 hlt;by_cases hz2:b.length=0
   .have HV:Hid (gW l=(l,false)):=Rq hp (by rw[HN.o];exact Hz.o) (by rw[Hm.o,Hb.o];exact List.eq_nil_of_length_eq_zero hz2);have hq:(b.length:Int)=0:=oo;have hqw:IntKind.i64.wrap ((b.length:Int)-1) = -1:=by rw[IntKind.wrap_i64];omega
    clear hz2;go_wp2_with fail;go_ret2
    exact⟨_,by rw[HV.o];rfl,by rw[HV.o];exact HS.o.below B1.o hB,B1.o⟩
   .have hp2:0<b.length:=oo;obtain⟨g2,o2,rfl,hL2,hcap2⟩:=HS2.o.here (by rintro rfl;simp at hp2);obtain⟨kv2,YH⟩:=hL2.node (i:=b.length-1) oo;obtain⟨n2,hn2⟩:∃n,n=b[b.length-1]'oo:=⟨_,rfl⟩;rw[<-hn2]at YH;have HN2:Hid (dN (b[b.length-1]'oo) (b1 33)=au n2.t (b1 33)):=by show _=_;rw[<-hn2];rfl
    have Lm:Hid (gW l=if dN (b[b.length-1]'oo) (b1 33)=true then(bare (b.take (b.length-1)),true) else(l,false)):=Rt hp (by rw[HN.o];exact Hz.o) (by rw[Hm.o];exact Hb.o) hp2;obtain⟨ka2,kc2,rfl⟩:=YH.k.form;have d0:=YH.c0;have d1:=YH.c1;have d2:=YH.c2;have d3:=YH.c3;clear YH hL2 hn2;obtain⟨m2,Hm2⟩:=Nm (b.length-1);have hm2:(b.length:Int)-1=(m2:Int):=by have:=Hm2.o;omega
    have ani:IntKind.i64.wrap ((b.length:Int)-1)=(m2:Int):=by rw[IntKind.wrap_i64];omega
    have anj:(m2:Int)<(b.length:Int):=oo;have ank:m2<b.length:=oo;have anl:(0:Int)<=(m2:Int):=oo;rw[Hm2.o]at d0 d1 d2 d3;obtain⟨z2,Hz2⟩:=Nm (au n2.t (b1 33));go_wp2_with fail;refine(jf n2.t (.slice ka2 n2.kids.length kc2) (b1 33) _).mono ?_;rw[Hz2.o];rintro e w3 ⟨rfl,hb3⟩;have B3:=hid (B1.o.trans (hb3.mono hs1));have HS3:=hid (HS2.o.below hb3 oo);have hs3:=B3.o.size;clear hb3 d0 d1 d2 d3;cases z2
    .have HV:Hid (gW l=(l,false)):=by show _=_;rw[Lm.o,HN2.o,Hz2.o];rfl
     go_wp2_with fail;go_ret2
     exact⟨_,by rw[HV.o];rfl,by rw[HV.o];exact HS.o.below B3.o hB,B3.o⟩
    .have HV:Hid (gW l=(bare (b.take m2),true)):=by show _=_;rw[Lm.o,HN2.o,Hz2.o,Hm2.o];rfl
     obtain⟨hr3,hS3⟩:=HS3.o.ajd m2 oo;have amB:=hid hS3;clear hS3;go_wp2_with fail;refine(tu B (b.take m2) _ w3 amB.o).mono ?_;rintro e w4 ⟨v4,rfl,hS4,hw4⟩;subst hw4;have HS4:=hid hS4;clear hS4;go_wp2_with fail;go_ret2
     exact⟨_,by rw[HV.o];rfl,by rw[HV.o];exact HS4.o,B3.o⟩
end
section
attribute [local go_sem] bI bJ aX aY
def Q3(T:TypeId)(w:WD)(b:Nat)(x0 x1 x2:Av):Prop:=w.heap[b]?=some (.cells #[x0,x1,x2] T (0,0))
section
variable {T:TypeId} {w w':WD} {b:Nat} {x0 x1 x2:Av}
theorem Q3.lt(h:Q3 T w b x0 x1 x2):b<w.heap.size:=(Ax h)
theorem Q3.cs(h:Q3 T w b x0 x1 x2):w.cell? ⟨b,0,none⟩=some x0/\w.cell? ⟨b,1,none⟩=some x1/\w.cell? ⟨b,2,none⟩=some x2:=by have h':w.heap[b]?=_:=h;refine⟨?_,?_,?_⟩<;>(unfold World.cell?;rw[h'];rfl)
theorem Q3.fz(h:Q3 T w b x0 x1 x2)(o:Nat):w.frozen? ⟨b,o,none⟩=false:=by have h':w.heap[b]?=_:=h;unfold World.frozen?;rw[h'];simp
theorem Q3.below(h:Q3 T w b x0 x1 x2)(hb:Below w.heap.size w w'):Q3 T w' b x0 x1 x2:=by show _=_;rw[hb.block b h.lt];exact h
theorem Q3.new(T:TypeId)(w:WD)(x0 x1 x2:Av):Q3 T (w.alloc (.cells #[x0,x1,x2] T)) w.heap.size x0 x1 x2:=heap_alloc_new w _
end
def agl(w:WD)(g:Nat)(a b c:Av):WD:=((w.setCell ⟨g,0,none⟩ a).setCell ⟨g,1,none⟩ b).setCell ⟨g,2,none⟩ c
theorem rF{B g:Nat}{x w:WD}(h:Below B x w)(hg:B<=g)(a b c:Av):Below B x (agl w g a b c):=((h.setCell hg _).setCell hg _).setCell hg _
theorem VZ(w:WD){g k:Nat}(h:k≠g)(a b c:Av):(agl w g a b c).heap[k]?=w.heap[k]?:=by unfold agl;rw[Below.heap_setCell _ _ _ _ h,Below.heap_setCell _ _ _ _ h,Below.heap_setCell _ _ _ _ h]
def dcP(B:Nat)(o:Option Dec)(w':WD)(e:Ending):Prop:=
 match o with
 |none=>e=.returned (.tuple #[.agg #[.string ⟨#[]⟩,.slice none 0 0,.bool false],.bool false])
 |some d=>∃vv,e=.returned (.tuple #[.agg #[.string d.prop,vv,.bool d.imp],.bool true])/\Sl (fun b=>b<B) w' vv d.val/\d.prop.size<=4000000
theorem V6(s:BY):(small s).size=s.size:=by show(s.data.toList.map jr).toArray.size=s.data.size;rw[List.size_toArray,List.length_map,Array.length_toList]
theorem FC(p:BY):(jM p).size=p.size:=by
 unfold jM;split
 .rfl
 .exact V6 p
theorem Ru{n:Nd}{r:List Nd}(h:(n.t.kind==14)=false):iI (n::r)=none:=by unfold iI;simp only;rw[if_pos (by simpa using h)]
theorem Rw{n:Nd}{r:List Nd}(h:(n.t.kind==14)=true)(hb:bare r=[]):iI (n::r)=none:=by unfold iI;simp only;rw[if_neg (by simpa using h),hb]
theorem Rx{n c:Nd}{r q:List Nd}(h:(n.t.kind==14)=true)(hb:bare r=c::q):iI (n::r)=if au c.t (b1 58)=true then some ⟨jM n.t.word,(gW (bare q)).1,(gW (bare q)).2⟩ else none:=by unfold iI;simp only;rw[if_neg (by simpa using h),hb];rfl
theorem CZ(B:Nat)(l:List Nd)(v:Av)(w:WD)(h:Sl (fun b=>b<B) w v l)(hB:B<=w.heap.size):
  Calls prog 158 #[v] w fun e w'=>dcP B (iI l) w' e/\Below w.heap.size w w':=by
 have FU:=h.len;have HS:=hid h;obtain⟨a,cap,rfl⟩:=h.form;clear h;have R0:Hid (Q3 181 (w.alloc (.cells #[.string ⟨#[]⟩,.slice none 0 0,.bool false] 181)) w.heap.size (.string ⟨#[]⟩) (.slice none 0 0) (.bool false)):=Q3.new _ _ _ _ _;have B0:Hid (Below w.heap.size w (w.alloc (.cells #[.string ⟨#[]⟩,.slice none 0 0,.bool false] 181))):=As.alloc nl _;go_in;go_upto_region 1 with fail
 have hsz0:=B0.o.size;have hlt0:=R0.o.lt;generalize w.alloc (.cells #[.string ⟨#[]⟩,.slice none 0 0,.bool false] 181)=w0 at *;obtain⟨rb,zV⟩:=Nm w.heap.size;rw[zV.o]at B0 R0 hB hlt0 hsz0⊢;have S0:=hid (HS.o.below B0.o hB);clear HS;cases l with
 |nil=>have HV:Hid (iI []=none):=rfl;have z0:=R0.o.fz 0;have z1:=R0.o.fz 1;have z2:=R0.o.fz 2;obtain⟨q0,q1,q2⟩:=R0.o.cs;go_wp2_with fail;refine bodyPost_ret (v:=.tuple #[.agg #[.string ⟨#[]⟩,.slice none 0 0,.bool false],.bool false]) (by simp[results,Tryz.results158,go_sem,q0,q1,q2]) rfl ?_;exact⟨by rw[HV.o];rfl,by rw[zV.o];exact rF B0.o nl _ _ _⟩
 |cons n r=>
  obtain⟨g,o,nv,cap',hcv,hN,hcap⟩:=S0.o.head;injection hcv with hcv1 _ hcv2
  subst hcv1 hcv2;have hgB:g<B:=hN.s;have c0:=hN.c0;have HNC:Hid (∀wx,Below w0.heap.size w0 wx->wx.cell? ⟨g,o+1,none⟩=some (.string n.t.word)):=fun wx hb=>by rw[hb.cell (p:=⟨g,_,none⟩) (show g<w0.heap.size by omega)];exact hN.c1
  have hwd:=hN.ok.word;clear hN;have h1:¬((r.length+1:Nat):Int)=0:=oo;have h1b:(((r.length+1:Nat):Int)==0)=false:=by simpa using h1
  have h1c:((r.length:Int)+1==0)=false:=by simp;omega
  cases hk:(n.t.kind==14)
  .have HV:Hid (iI (n::r)=none):=Ru hk;have hkn:(n.t.kind != 14)=true:=by rw[bne,hk];rfl
   have z0:=R0.o.fz 0;have z1:=R0.o.fz 1;have z2:=R0.o.fz 2;obtain⟨q0,q1,q2⟩:=R0.o.cs;go_wp2_with fail;refine bodyPost_ret (v:=.tuple #[.agg #[.string ⟨#[]⟩,.slice none 0 0,.bool false],.bool false]) (by simp[results,Tryz.results158,go_sem,q0,q1,q2]) rfl ?_;exact⟨by rw[HV.o];rfl,by rw[zV.o];exact rF B0.o nl _ _ _⟩
  .have hkn:(n.t.kind != 14)=false:=by rw[bne,hk];rfl
   obtain⟨a1,hr1,hS1⟩:=S0.o.MH;have HS1:=hid hS1;clear hS1;go_wp2_with fail;refine(tu B r _ w0 HS1.o).mono ?_;obtain⟨b,Hb⟩:=Nm (bare r);rw[Hb.o];rintro e w2 ⟨v2,rfl,hS2,hw2⟩;subst hw2;have HS2:=hid hS2;obtain⟨a2,c2,rfl⟩:=hS2.form;have hl2:=hS2.len;clear hS2 hr1;cases b with
   |nil=>have HV:Hid (iI (n::r)=none):=Rw hk Hb.o;have z0:=R0.o.fz 0;have z1:=R0.o.fz 1;have z2:=R0.o.fz 2;obtain⟨q0,q1,q2⟩:=R0.o.cs;go_wp2_with fail;refine bodyPost_ret (v:=.tuple #[.agg #[.string ⟨#[]⟩,.slice none 0 0,.bool false],.bool false]) (by simp[results,Tryz.results158,go_sem,q0,q1,q2]) rfl ?_;exact⟨by rw[HV.o];rfl,by rw[zV.o];exact rF B0.o nl _ _ _⟩
   |cons c q=>
    have Lm:Hid (iI (n::r)=if au c.t (b1 58)=true then some ⟨jM n.t.word,(gW (bare q)).1,(gW (bare q)).2⟩ else none):=Rx hk Hb.o;obtain⟨g2,o2,kv2,cap2,hcv,YH,hcap2⟩:=HS2.o.head;injection hcv with hcv1 _ hcv2
    subst hcv1 hcv2;obtain⟨ka2,kc2,rfl⟩:=YH.k.form;have d0:=YH.c0;have d1:=YH.c1;have d2:=YH.c2;have d3:=YH.c3;clear YH;have h2c:((q.length:Int)+1==0)=false:=by simp;omega
    obtain⟨z2,Hz2⟩:=Nm (au c.t (b1 58));rw[Hz2.o]at Lm;go_wp2_with fail;refine(jf c.t (.slice ka2 c.kids.length kc2) (b1 58) _).mono ?_;rw[Hz2.o];rintro e w3 ⟨rfl,hb3⟩;have X3:=hid hb3;have B3:=hid (B0.o.trans (hb3.mono hsz0));have R3:=hid (R0.o.below hb3);have HS3:=hid (HS2.o.below hb3 oo);have hs3:=X3.o.size;clear hb3 d0 d1 d2 d3;cases z2
    .have HV:Hid (iI (n::r)=none):=Lm.o;have z0:=R3.o.fz 0;have z1:=R3.o.fz 1;have z2:=R3.o.fz 2;obtain⟨q0,q1,q2⟩:=R3.o.cs;go_wp2_with fail;refine bodyPost_ret (v:=.tuple #[.agg #[.string ⟨#[]⟩,.slice none 0 0,.bool false],.bool false]) (by simp[results,Tryz.results158,go_sem,q0,q1,q2]) rfl ?_;exact⟨by rw[HV.o];rfl,by rw[zV.o];exact rF B3.o nl _ _ _⟩
    .obtain⟨a4,hr4,hS4⟩:=HS3.o.MH;have HS4:=hid hS4;clear hS4;go_wp2_with fail;refine(tu B q _ w3 HS4.o).mono ?_;obtain⟨bq,Hbq⟩:=Nm (bare q);rw[Hbq.o]at Lm;rw[Hbq.o];rintro e w5 ⟨v5,rfl,hS5,hw5⟩;subst hw5;have HS5:=hid hS5;obtain⟨a5,c5,rfl⟩:=hS5.form;clear hS5 hr4;go_wp2_with fail;refine(IJ B bq _ w5 HS5.o oo).mono ?_;obtain⟨⟨val,imp⟩,Hci⟩:∃ci,Hid (gW bq=ci):=⟨_,hid rfl⟩;rw[Hci.o]at Lm;rw[Hci.o];rintro e w6 ⟨v6,rfl,hS6,hb6⟩;have HS6:=hid hS6;obtain⟨a6,c6,rfl⟩:=hS6.form;have X6:=hid (X3.o.trans (hb6.mono hs3));have B6:=hid (B0.o.trans (X6.o.mono hsz0))
     have R6:=hid (R3.o.below hb6);have c1:=HNC.o w6 X6.o;have hs6:=X6.o.size;clear hS6 hb6;go_wp2_with fail;refine(II n.t.word w6 hwd).mono ?_;have hps:(jM n.t.word).size<=4000000:=by rw[FC];exact hwd
     obtain⟨pr,Hpr⟩:=Nm (jM n.t.word);rw[Hpr.o]at Lm hps;rw[Hpr.o];rintro e w7 ⟨rfl,hb7⟩;have X7:=hid (X6.o.trans (hb7.mono hs6));have B7:=hid (B0.o.trans (X7.o.mono hsz0));have R7:=hid (R6.o.below hb7);have HS7:=hid (HS6.o.below hb7 oo);clear hb7 c1;have HV:Hid (iI (n::r)=some ⟨pr,val,imp⟩):=Lm.o;have z0:=R7.o.fz 0;have z1:=R7.o.fz 1;have z2:=R7.o.fz 2;obtain⟨q0,q1,q2⟩:=R7.o.cs;go_wp2_with fail;refine bodyPost_ret (v:=.tuple #[.agg #[.string pr,.slice a6 val.length c6,.bool imp],.bool true]) (by simp[results,Tryz.results158,go_sem,q0,q1,q2]) rfl ?_
     have hst:∀k,k<B->(agl w7 rb (.string pr) (.slice a6 val.length c6) (.bool imp)).heap[k]?=w7.heap[k]?:=fun k hk=>VZ w7 oo _ _ _;exact⟨by rw[HV.o];exact⟨_,rfl,HS7.o.keep (fun _ hg=>hg) hst,hps⟩,by rw[zV.o];exact rF B7.o nl _ _ _⟩
end
section
attribute [local go_sem] bI bJ aX aY
theorem xU:∀(f g:Nat) (l:List Nd),l.length<=f->l.length<=g->fF f l=fF g l:=by
 intro f;induction f with
 |zero=>intro g l hf hg;obtain rfl:l=[]:=List.eq_nil_of_length_eq_zero oo;cases g<;>rfl
 |succ f ih=>
  intro g l hf hg;cases l with
  |nil=>cases g<;>rfl
  |cons n r=>
   cases g with
   |zero=>simp at hg
   |succ g=>
    simp only[List.length_cons]at hf hg;unfold fF;dsimp only
    have h1:=jF (fun m=>aS m||aK m) r;have h2:=jF aS (n::r);simp only[List.length_cons]at h2;rw[ih g r oo oo,ih g (bG (fun m=>aS m||aK m) r).2.2 oo oo,ih g (bG aS (n::r)).2.2 oo oo]
theorem Ry{n:Nd}{r:List Nd}(h:iH n=true):decls (n::r)=decls r:=by
 unfold decls;show fF (r.length+1) (n::r)=_;conv=>lhs;unfold fF
 rw[if_pos (by rw[h];rfl)]
theorem acP{n:Nd}{r:List Nd}(h:n.t.kind=10):decls (n::r)=decls (bG (fun m=>aS m||aK m) r).2.2:=by
 have h1:=jF (fun m=>aS m||aK m) r;unfold decls;show fF (r.length+1) (n::r)=_;conv=>lhs;unfold fF
 rw[if_neg (by simp[iH,aS,dN,au,h]),if_pos h];exact xU _ _ _ oo nl
theorem Rz{n:Nd}{r:List Nd}(h:¬n.t.kind=1)(h10:¬n.t.kind=10):decls (n::r)=(iI (bG aS (n::r)).1).toList++decls (bG aS (n::r)).2.2:=by
 have h1:=jF aS (n::r);simp only[List.length_cons]at h1;unfold decls;show fF (r.length+1) (n::r)=_;have hb:iH n=false:=by simp[iH,h]
 by_cases hs:aS n=true
 .conv=>lhs;unfold fF
  rw[if_pos (by rw[hs];simp)];unfold bG;rw[if_pos hs];rfl
 .conv=>lhs;unfold fF
  rw[if_neg (by rw[hb];simpa using hs),if_neg h10];dsimp only
  cases iI (bG aS (n::r)).1 with
  |none=>exact xU _ _ _ oo nl
  |some d=>show d::_=d::_;rw[xU r.length _ _ oo nl];rfl
def vS:wV Dec:=fun S w d cs=>∃vv,cs=[.string d.prop,vv,.bool d.imp]/\Sl S w vv d.val/\d.prop.size<=4000000
theorem vS.fair:Fair vS:=by rintro S S' w w' d cs hS hw ⟨vv,h1,h2,h3⟩;exact⟨vv,h1,h2.keep hS hw,h3⟩
theorem vS.sized:ug vS 3:=by rintro S w d cs ⟨vv,rfl,_⟩;rfl
theorem acQ:∃i,prog.info? 181=some i/\i.zero=some (.agg #[.string ⟨#[]⟩,.slice none 0 0,.bool false])/\i.size=3/\i.bytes=48:=info_parts An
theorem amC(w:WD)(a b c:Av)(t:TypeId):∀j u,[a,b,c][j]?=some u->(w.alloc (.cells #[a,b,c] t)).cell? ((⟨w.heap.size,0,none⟩:Addr).add j)=some u:=by intro j u hu;rw[Addr.add_lit,Nat.zero_add,World.cell?_alloc_mark,<-hu];simp
structure DcI(B:Nat)(w:WD)(l:List Nd)(u:Av)(acc:List Dec)(cs:List Av)(cv:Av)(cur:List Nd)(wr:WD):Prop where
 row:wr.ownsRow w.heap.size 181 3 u acc.length cs
 cat:jC vS (fun b=>b<B) wr acc cs
 now:Sl (fun b=>b<B) wr cv cur
 below:Below w.heap.size w wr
 eq:decls l=acc++decls cur
 ln:acc.length+cur.length<=l.length
theorem xW(B:Nat)(l:List Nd)(v:Av)(w:WD)(h:Sl (fun b=>b<B) w v l)(hB:B<=w.heap.size):
  Calls prog 93 #[v] w fun e w'=>∃u cs,e=.returned u/\(w'.ownsRow w.heap.size 181 3 u (decls l).length cs/\jC vS (fun b=>b<B) w' (decls l) cs/\(decls l).length<=2097152/\B<=w'.heap.size)/\Below w.heap.size w w':=by
 have FU:=h.len;have HS:=hid h;obtain⟨a,cap,rfl⟩:=h.form;clear h;obtain⟨iT,hiT⟩:=acQ;have HI:=hid hiT;clear hiT;go_in;go_wp2_with fail;go_loopg[0,3] l.length (fun gg v0 v3 wr=>∃(u cv:Av) (acc:List Dec) (cs:List Av) (cur:List Nd),u=v3/\cv=v0/\cur.length<=gg/\acc.length<=600/\Aside (DcI B w l u acc cs cv cur wr));case atStart=>exact⟨_,_,[],[],l,rfl,rfl,oo,by simp,World.ownsRow_nil _ _ _ _,rfl,HS.o,As,rfl,by simp⟩
 case round=>
  obtain⟨u,cv,acc,cs,cur,rfl,rfl,hcl,hal,hA⟩:=hrel;have HR:Hid (DcI B w l u acc cs cv cur wr):=hA.o;clear hA;obtain⟨ua,uc,rfl⟩:=kQ HR.o.row;have hsr:=HR.o.below.size;cases cur with
  |nil=>
   obtain⟨ca,cc,rfl⟩:=HR.o.now.form;have HV:Hid (decls l=acc):=by show _=_;rw[HR.o.eq];exact List.append_nil _
   go_wp2_with fail;go_ret;exact⟨_,_,rfl,by rw[HV.o];exact⟨HR.o.row,HR.o.cat,oo,oo⟩,HR.o.below⟩
  |cons n r=>
   obtain⟨g,o,nv,cap',rfl,hN,hcap⟩:=HR.o.now.head;have c0:=hN.c0;clear hN;have h1:(0:Int)<((r.length+1:Nat):Int):=oo;simp only[List.length_cons]at hcl;have hln:=HR.o.ln;simp only[List.length_cons]at hln;cases hk1:(n.t.kind==1)
   .have nk1:¬n.t.kind=1:=by simpa using hk1
    cases hk10:(n.t.kind==10)
    .have ak7:¬n.t.kind=10:=by simpa using hk10
     obtain⟨c,Hc⟩:=Nm (bG aS (n::r));have Qh:Hid (decls l=acc++((iI c.1).toList++decls c.2.2)):=by show _=_;rw[HR.o.eq,Rz nk1 ak7,Hc.o]
     have hrl:c.2.2.length<=r.length:=by have:=jF aS (n::r);rw[Hc.o]at this;simp only[List.length_cons]at this;omega
     have FB:=hid (funext ak5);clear nk1 ak7;have B1:Hid (Below wr.heap.size wr (wr.alloc (.cells #[.string ⟨#[59]⟩] 9))):=As.alloc nl _;have IE:Hid (∀j,j<1->(wr.alloc (.cells #[.string ⟨#[59]⟩] 9)).cell? ⟨wr.heap.size,0+j,none⟩=some (.string ([(⟨#[59]⟩:BY)].getD j ByteArray.empty))):=by intro j hj;have hh:(wr.alloc (.cells #[.string ⟨#[59]⟩] 9)).heap[wr.heap.size]?=_:=heap_alloc_new wr _;unfold World.cell?;rw[hh];obtain rfl:j=0:=oo;rfl
     go_wp2_with fail;have hs1:=B1.o.size;have hlt1:wr.heap.size<(wr.alloc (.cells #[.string ⟨#[59]⟩] 9)).heap.size:=by simp
     generalize wr.alloc (.cells #[.string ⟨#[59]⟩] 9)=w1 at *;refine(ail B (n::r) _ [⟨#[59]⟩] _ w1 (HR.o.now.below B1.o oo) oo Aa hlt1 IE.o).mono ?_;rw[FB.o,Hc.o];rintro e w2 ⟨v1,sv,v2,rfl,hcut,hb2⟩;obtain⟨t,ka,ks,kc,rfl,hks,hsome,hbody⟩:=hcut.val;obtain⟨va,vc,rfl⟩:=hcut.ahead.form;obtain⟨ba,bc,rfl⟩:=hcut.behind.form;have X2:=hid (B1.o.trans (hb2.mono hs1));have HA:=hid hcut.ahead;have HBH:=hid hcut.behind;have hs2:=X2.o.size;clear hcut hks hsome hbody hb2 IE hlt1 B1 c0;unfold fB;go_wp2_with fail;refine(CZ B c.1 _ w2 HA.o oo).mono ?_;rintro e w3 ⟨hdc,hb3⟩;have X3:=hid (X2.o.trans (hb3.mono hs2))
     have HB3:=hid (HBH.o.below hb3 oo);have hs3:=X3.o.size;clear hb3;cases hd:iI c.1 with
     |none=>
      rw[hd]at hdc;have amD:e=_:=hdc;subst amD;have X4:Hid (Below wr.heap.size wr (w3.alloc (.cells #[.string ⟨#[]⟩,.slice none 0 0,.bool false] 181))):=X3.o.alloc hs3 _;have FZ:Hid (DcI B w l (.slice ua acc.length uc) acc cs (.slice ba c.2.2.length bc) c.2.2 (w3.alloc (.cells #[.string ⟨#[]⟩,.slice none 0 0,.bool false] 181))):=⟨aP HR.o.row fun k hk=>X4.o.block k (HR.o.row.lt k hk).2,HR.o.cat.keep vS.fair (fun _ h=>h) (fun k hk=>by have hk':k<B:=hk;exact X4.o.block k oo),HB3.o.below (As.alloc nl _) oo,HR.o.below.trans (X4.o.mono hsr),by rw[Qh.o,hd];rfl,oo⟩;clear hd;go_wp2_with fail;go_roundg(gk-1);case measure=>omega
      case rel=>exact⟨_,_,acc,cs,c.2.2,rfl,rfl,oo,hal,FZ.o⟩
     |some d=>
      rw[hd]at hdc;obtain⟨vv,rfl,hvv,hps⟩:=hdc;obtain⟨da,dc,rfl⟩:=hvv.form;have HD:Hid (iI c.1=some d):=hd;have HVV:=hid hvv;clear hd hvv;have anm:c.2.2.length+1<=(n::r).length:=by simp;omega
      have D4:Hid (Q3 181 (w3.alloc (.cells #[.string d.prop,.slice da d.val.length dc,.bool d.imp] 181)) w3.heap.size (.string d.prop) (.slice da d.val.length dc) (.bool d.imp)):=Q3.new _ _ _ _ _;have X4:Hid (Below wr.heap.size wr (w3.alloc (.cells #[.string d.prop,.slice da d.val.length dc,.bool d.imp] 181))):=X3.o.alloc hs3 _;have XX4:Hid (Below w3.heap.size w3 (w3.alloc (.cells #[.string d.prop,.slice da d.val.length dc,.bool d.imp] 181))):=As.alloc nl _;go_upto_region 7 with fail
      generalize w3.alloc (.cells #[.string d.prop,.slice da d.val.length dc,.bool d.imp] 181)=w4 at *;generalize w3.heap.size=gd at *;obtain⟨p0,p1,p2⟩:=D4.o.cs;have R4:Hid (w4.ownsRow w.heap.size 181 3 (.slice ua acc.length uc) acc.length cs):=aP HR.o.row fun k hk=>X4.o.block k (HR.o.row.lt k hk).2;have CT4:Hid (jC vS (fun b=>b<B) w4 acc cs):=HR.o.cat.keep vS.fair (fun _ h=>h) (fun k hk=>by have hk':k<B:=hk;exact X4.o.block k oo);have BW4:=hid (HR.o.below.trans (X4.o.mono hsr));have hs4:=BW4.o.size;have HO5:Hid ((w4.alloc (.cells #[.string d.prop,.slice da d.val.length dc,.bool d.imp] 181)).ownsRow w.heap.size 181 3 (.slice ua acc.length uc) acc.length cs):=R4.o.alloc _;have hgd:=D4.o.lt;have amE:=hid (HVV.o.below XX4.o oo)
      have HB4:=hid (HB3.o.below XX4.o oo);go_wp2_with(at_builtin;go_must(refine wpList_append_own_at _ rfl _ _ 174 rfl w.heap.size 181 iT (.agg #[.string ⟨#[]⟩,.slice none 0 0,.bool false]) 3 48 Tryz.underlying174 HI.o.1 HI.o.2.1 HI.o.2.2.1 HI.o.2.2.2 rfl oo (.slice ua acc.length uc) acc.length cs rfl HO5.o ⟨w4.heap.size,0,none⟩ 1 1 [.string d.prop,.slice da d.val.length dc,.bool d.imp] rfl rfl (amC _ _ _ _ _) (by simp[Value.oneCell']) Ao oo Al ?_));intro v6 w6 hown6 lS _ aaq;have hlo:∀rr,Value.ownBlock (.slice ua acc.length uc)=some rr->w.heap.size<=rr:=fun rr hr=>(HO5.o.lt rr hr).1;have hb6:Below w.heap.size w4 w6:=(As.alloc hs4 _).grown lS Al hlo
      have OA:Hid (DcI B w l v6 (acc++[d]) (cs++[.string d.prop,.slice da d.val.length dc,.bool d.imp]) (.slice ba c.2.2.length bc) c.2.2 w6):=⟨by rw[List.length_append];exact hown6,jC.snoc _ _ (CT4.o.keep vS.fair (fun _ h=>h) (fun k hk=>hb6.block k (Nat.lt_of_lt_of_le hk hB))) d _ ⟨_,rfl,amE.o.below hb6 hB,hps⟩,HB4.o.below hb6 hB,BW4.o.trans hb6,by rw[Qh.o,HD.o,List.append_assoc];rfl,by simp;omega⟩;have amF:(acc++[d]).length<=600:=by have:=OA.o.ln;omega
      clear hown6 lS aaq hlo hb6;go_wp2_with fail;go_roundg(gk-1);case measure=>omega
      case rel=>exact⟨_,_,acc++[d],_,c.2.2,rfl,rfl,oo,amF,OA.o⟩
    .have k10:n.t.kind=10:=by simpa using hk10
     obtain⟨c,Hc⟩:=Nm (bG (fun m=>aS m||aK m) r);have Qh:Hid (decls l=acc++decls c.2.2):=by show _=_;rw[HR.o.eq,acP k10,Hc.o]
     have hrl:c.2.2.length<=r.length:=by have:=jF (fun m=>aS m||aK m) r;rw[Hc.o]at this;omega
     clear k10 nk1;go_wp2_with fail;refine(acO B n r _ wr HR.o.now oo).mono ?_;rw[Hc.o];rintro e w2 ⟨hv,bv,v2,rfl,Rj,hbh,hb2⟩;obtain⟨va,vc,rfl⟩:=Rj.head.form;obtain⟨bl,hbl,hbe⟩:=Rj.body;obtain⟨ka,kc,rfl⟩:=hbl.form;obtain⟨ba,bc,rfl⟩:=hbh.form;obtain⟨sb,Hsb⟩:=Nm ((gV c.2.1).isSome);rw[Hsb.o];have FZ:Hid (DcI B w l (.slice ua acc.length uc) acc cs (.slice ba c.2.2.length bc) c.2.2 w2):=⟨aP HR.o.row fun k hk=>hb2.block k (HR.o.row.lt k hk).2,HR.o.cat.keep vS.fair (fun _ h=>h) (fun k hk=>by have hk':k<B:=hk;exact hb2.block k oo),hbh,HR.o.below.trans (hb2.mono hsr),Qh.o,oo⟩;clear Rj hbl hbe hbh hb2 c0;go_wp2_with fail;go_roundg(gk-1);case measure=>omega
     case rel=>exact⟨_,_,acc,cs,c.2.2,rfl,rfl,oo,hal,FZ.o⟩
   .have k1:n.t.kind=1:=by simpa using hk1
    obtain⟨a1,hr1,hS1⟩:=HR.o.now.MH;have FZ:Hid (DcI B w l (.slice ua acc.length uc) acc cs (.slice a1 r.length (cap'-1)) r wr):=⟨HR.o.row,HR.o.cat,hS1,HR.o.below,by rw[HR.o.eq,Ry (by simp[iH,k1])],oo⟩;clear hS1 k1;go_wp2_with fail;go_roundg(gk-1);case measure=>omega
    case rel=>exact⟨_,_,acc,cs,r,rfl,rfl,oo,hal,FZ.o⟩
theorem IK(B:Nat)(l:List Nd)(v:Av)(w:WD)(h:Sl (fun b=>b<B) w v l)(hB:B<=w.heap.size):
  Calls prog 93 #[v] w fun e w'=>∃u,e=.returned u/\SG vS 3 (fun b=>b<w'.heap.size) w' u (decls l)/\Below w.heap.size w w':=by
 refine(xW B l v w h hB).mono ?_;rintro e w' ⟨u,cs,h1,⟨h2,h3,h4,h5⟩,h6⟩;exact⟨u,h1,aje vS.fair vS.sized h2 h3 (fun g hg=>Nat.lt_of_lt_of_le hg h5) h4,h6⟩
end
def eX:wV BY:=fun _ _ s cs=>cs=[.string s]/\s.size<=4194304
def qH:wV (BY×BY):=fun _ _ a cs=>cs=[.string a.1,.string a.2]/\a.1.size<=4194304/\a.2.size<=4194304
def wO:wV Elem:=fun S w x cs=>∃cv av,cs=[.int .i64 x.parent,.string x.tag,.string x.id,cv,av]/\SG eX 1 S w cv x.classes/\SG qH 2 S w av x.attrs/\x.tag.size<=4194304/\x.id.size<=4194304 /\ -9223372036854775808<=x.parent/\x.parent<=9223372036854775807
theorem eX.fair:Fair eX:=fun _ _ _ _ _ _ _ _ h=>h
theorem qH.fair:Fair qH:=fun _ _ _ _ _ _ _ _ h=>h
theorem wO.fair:Fair wO:=by rintro S S' w w' x cs hS hw ⟨cv,av,h1,h2,h3,h4⟩;exact⟨cv,av,h1,h2.keep eX.fair hS hw,h3.keep qH.fair hS hw,h4⟩
theorem wO.sized:ug wO 5:=by rintro S w x cs ⟨cv,av,rfl,_⟩;rfl
structure ak9(S:Nat->Prop)(w:WD)(x:Elem)(g o:Nat)(cv av:Av):Prop where
 s:S g
 c0:w.cell? ⟨g,o,none⟩=some (.int .i64 x.parent)
 c1:w.cell? ⟨g,o+1,none⟩=some (.string x.tag)
 c2:w.cell? ⟨g,o+2,none⟩=some (.string x.id)
 c3:w.cell? ⟨g,o+3,none⟩=some cv
 c4:w.cell? ⟨g,o+4,none⟩=some av
 cl:SG eX 1 S w cv x.classes
 at_:SG qH 2 S w av x.attrs
 tag:x.tag.size<=4194304
 id:x.id.size<=4194304
 lo: -9223372036854775808<=x.parent
 hi:x.parent<=9223372036854775807
theorem EG.el{S:Nat->Prop}{w:WD}{x:Elem}{g o:Nat}(h:EG wO S w x g o):∃cv av,ak9 S w x g o cv av:=by obtain⟨h0,cs,⟨cv,av,rfl,h2,h3,h4,h5,h6,h7⟩,hc⟩:=h;exact⟨cv,av,h0,hc 0 _ rfl,hc 1 _ rfl,hc 2 _ rfl,hc 3 _ rfl,hc 4 _ rfl,h2,h3,h4,h5,h6,h7⟩
theorem LG.el{S:Nat->Prop}{w:WD}{l:List Elem}{g o i:Nat}(h:LG wO 5 S w l g o)(hi:i<l.length):∃cv av,ak9 S w l[i] g (o+i*5) cv av:=(h.at l g o i hi).el
theorem LG.str{S:Nat->Prop}{w:WD}{l:List BY}{g o i:Nat}(h:LG eX 1 S w l g o)(hi:i<l.length):S g/\w.cell? ⟨g,o+i,none⟩=some (.string l[i])/\l[i].size<=4194304:=by obtain⟨h0,cs,⟨rfl,h2⟩,hc⟩:=h.at l g o i hi;have:=hc 0 _ rfl;rw[Nat.mul_one,Nat.add_zero]at this;exact⟨h0,this,h2⟩
theorem LG.att{S:Nat->Prop}{w:WD}{l:List (BY×BY)}{g o i:Nat}(h:LG qH 2 S w l g o)(hi:i<l.length):S g/\w.cell? ⟨g,o+i*2,none⟩=some (.string l[i].1)/\w.cell? ⟨g,o+i*2+1,none⟩=some (.string l[i].2)/\l[i].1.size<=4194304/\l[i].2.size<=4194304:=by obtain⟨h0,cs,⟨rfl,h2,h3⟩,hc⟩:=h.at l g o i hi;exact⟨h0,hc 0 _ rfl,hc 1 _ rfl,h2,h3⟩
def acV(c:BY):Bool:=nameP c&&!decide (c=aA)
def aay(a:BY×BY):Bool:=nameP a.1&&dK a.2&&!decide (a.1=aA)
def Wi(i:Nat)(x:Elem):Bool:=if i=0 then x.parent == -1 else decide (0<=x.parent)&&decide (x.parent<i)
def acW(i:Nat)(x:Elem):Bool:=nameP x.tag&&!decide (x.tag=aA)&&nameP x.id&&decide (x.classes.length<=4)&&decide (x.attrs.length<=4)&&Wi i x
theorem RJ(i:Nat)(x:Elem):xC i x=(acW i x&&x.classes.all acV&&x.attrs.all aay):=rfl
theorem RN:∀(p:aI) (i k:Nat) (h:k<p.length),gI i (p.drop k)=(xC i p[k]&&gI (i+1) (p.drop (k+1)))
 |p,i,k,h=>by rw[List.drop_eq_getElem_cons h];rfl
section
attribute [local go_sem] bI bJ aX aY
def sgB(s:BY):Bool:=s.toList==[43]||s.toList==[45]||s.toList==[42]||s.toList==[47]||s.toList==[46]||s.toList==[44]||s.toList==[58]||s.toList==[37]||s.toList==[61]||s.toList==[40]||s.toList==[91]||s.toList==[123]
theorem RP(s:BY)(w:WD):Calls prog 248 #[.string s] w fun e w'=>e=.returned (.bool (sgB s))/\w'=w:=by
 go_in;go_wp2_with fail;all_goals
  go_ret;refine⟨aC ?_,rfl⟩;first|(simp[sgB, *];done)|(exfalso;simp_all;done)
theorem ajj(t:Tok)(h:t.kind=15):sgB t.word=(!decide (closing t=aA)||vk t.word):=by
 unfold sgB vk;rw[ay,ay,ay,ay,ay,ay,ay,ay,ay,ay,ay,ay];have hc:closing t=if t.word=b1 40 then b1 41 else if t.word=b1 91 then b1 93 else if t.word=b1 123 then b1 125 else aA:=by unfold closing;rw[if_neg (by rw[h];decide),if_pos h]
 rw[hc];show(decide (t.word=b1 43)||decide (t.word=b1 45)||decide (t.word=b1 42)||decide (t.word=b1 47)||decide (t.word=b1 46)||decide (t.word=b1 44)||decide (t.word=b1 58)||decide (t.word=b1 37)||decide (t.word=b1 61)||decide (t.word=b1 40)||decide (t.word=b1 91)||decide (t.word=b1 123))=_;by_cases h1:t.word=b1 40
 .rw[if_pos h1,decide_eq_true h1];simp[show ¬b1 41=aA by decide]
 .rw[if_neg h1,decide_eq_false h1];by_cases h2:t.word=b1 91
  .rw[if_pos h2,decide_eq_true h2];simp[show ¬b1 93=aA by decide]
  .rw[if_neg h2,decide_eq_false h2];by_cases h3:t.word=b1 123
   .rw[if_pos h3,decide_eq_true h3];simp[show ¬b1 125=aA by decide]
   .rw[if_neg h3,decide_eq_false h3];cases decide (t.word=b1 43)<;>cases decide (t.word=b1 45)<;>cases decide (t.word=b1 42)<;>cases decide (t.word=b1 47)<;>cases decide (t.word=b1 46)<;>cases decide (t.word=b1 44)<;>cases decide (t.word=b1 58)<;>cases decide (t.word=b1 37)<;>cases decide (t.word=b1 61)<;>rfl
end
section
attribute [local go_sem] bI bJ aX aY
theorem vV(zs:List BY)(x:BY):zs.contains x=zs.any (fun z=>decide (x=z)):=by
 induction zs with
 |nil=>rfl
 |cons z r ih=>
  rw[List.contains_cons,ih,List.any_cons];congr 1
  rw[Bool.eq_iff_iff];obtain⟨xd⟩:=x;obtain⟨zd⟩:=z;show(xd==zd)=true↔decide (_=_)=true;simp
theorem YL(S:Nat->Prop)(zs:List BY)(v:Av)(x:BY)(w:WD)(h:SG eX 1 S w v zs):
  Calls prog 188 #[v,.string x] w fun e w'=>e=.returned (.bool (zs.contains x))/\w'=w:=by
 obtain⟨a,cap,rfl⟩:=h.form;cases zs with
 |nil=>exact Tryz.slices_Contains_string_empty a cap x w
 |cons z r=>
  have hl:=h.len;obtain⟨g,o,rfl,hL,hcap⟩:=h.here Aa;have:=Tryz.slices_Contains_string g o (z::r).length cap (z::r) x w nl oo (fun j hj=>by have h1:=(hL.str (i:=j) hj).2.1;rw[h1,List.getD_eq_getElem?_getD,List.getElem?_eq_getElem hj];rfl)
  rw[List.take_of_length_le nl,y9,<-vV]at this;exact this
def dF(p:aF)(pv fv av:Av):Av:=.agg #[.string p.root,pv,fv,av,.bool p.aU,.bool p.texts]
structure jK(B:Nat)(w:WD)(p:aF)(pv fv av:Av):Prop where
 props:SG eX 1 (fun b=>b<B) w pv p.props
 aJ:SG eX 1 (fun b=>b<B) w fv p.aJ
 ats:SG eX 1 (fun b=>b<B) w av p.ats
 lt:B<=w.heap.size
theorem jK.below{B:Nat}{w w':WD}{p:aF}{pv fv av:Av}{g:Nat}(h:jK B w p pv fv av)(hb:Below g w w')(hg:B<=g):jK B w' p pv fv av:=⟨h.props.below eX.fair hb hg,h.aJ.below eX.fair hb hg,h.ats.below eX.fair hb hg,Nat.le_trans h.lt hb.size⟩
def Q6(w:WD)(b:Nat)(x0 x1 x2 x3 x4 x5:Av):Prop:=w.heap[b]?=some (.cells #[x0,x1,x2,x3,x4,x5] 82 (0,0))
section
variable {w w':WD} {b:Nat} {x0 x1 x2 x3 x4 x5:Av}
theorem Q6.lt(h:Q6 w b x0 x1 x2 x3 x4 x5):b<w.heap.size:=(Ax h)
theorem Q6.cs(h:Q6 w b x0 x1 x2 x3 x4 x5):w.cell? ⟨b,0,none⟩=some x0/\w.cell? ⟨b,1,none⟩=some x1/\w.cell? ⟨b,2,none⟩=some x2/\w.cell? ⟨b,3,none⟩=some x3/\w.cell? ⟨b,4,none⟩=some x4/\w.cell? ⟨b,5,none⟩=some x5:=by have h':w.heap[b]?=_:=h;refine⟨?_,?_,?_,?_,?_,?_⟩<;>(unfold World.cell?;rw[h'];rfl)
theorem Q6.below{g:Nat}(h:Q6 w b x0 x1 x2 x3 x4 x5)(hb:Below g w w')(hg:b<g):Q6 w' b x0 x1 x2 x3 x4 x5:=by show _=_;rw[hb.block b hg];exact h
theorem Q6.new(w:WD)(x0 x1 x2 x3 x4 x5:Av):Q6 (w.alloc (.cells #[x0,x1,x2,x3,x4,x5] 82)) w.heap.size x0 x1 x2 x3 x4 x5:=heap_alloc_new w _
theorem Q6.nb(p:aF)(pa fa aa:Option Addr)(pc fc ac:Nat)(w:WD):Hid (Below w.heap.size w (w.alloc (.cells #[.string p.root,.slice pa p.props.length pc,.slice fa p.aJ.length fc,.slice aa p.ats.length ac,.bool p.aU,.bool p.texts] 82)))/\Hid (Q6 (w.alloc (.cells #[.string p.root,.slice pa p.props.length pc,.slice fa p.aJ.length fc,.slice aa p.ats.length ac,.bool p.aU,.bool p.texts] 82)) w.heap.size (.string p.root) (.slice pa p.props.length pc) (.slice fa p.aJ.length fc) (.slice aa p.ats.length ac) (.bool p.aU) (.bool p.texts)):=⟨As.alloc nl _,Q6.new _ _ _ _ _ _ _⟩
theorem Q6.alloc(h:Q6 w b x0 x1 x2 x3 x4 x5)(o:Obj):Q6 (w.alloc o) b x0 x1 x2 x3 x4 x5:=h.below (As.alloc nl _) h.lt
end
section
variable (p:aF) (pa fa aa:Option Addr) (pl pc fl fc al ac:Nat) (wd un:BY) (ka:Option Addr) (kl kc:Nat) (w:WD)
theorem fJ(o1 o2:Obj):Below w.heap.size w ((w.alloc o1).alloc o2):=(As.alloc nl _).alloc Aa _
theorem ala:Calls prog 189 #[dF p (.slice pa pl pc) (.slice fa fl fc) (.slice aa al ac),.agg #[.int .i64 2,.string wd,.string un,.slice ka kl kc]] w fun e w'=>e=.returned (.bool p.texts)/\Below w.heap.size w w':=by have B2:Hid (Below w.heap.size w ((w.alloc (.cells #[.string p.root,.slice pa pl pc,.slice fa fl fc,.slice aa al ac,.bool p.aU,.bool p.texts] 82)).alloc (.cells #[.int .i64 2,.string wd,.string un,.slice ka kl kc] 199))):=fJ _ _ _;unfold dF;go_in;go_wp2_with fail;go_ret;exact⟨rfl,B2.o⟩
theorem alb:Calls prog 189 #[dF p (.slice pa pl pc) (.slice fa fl fc) (.slice aa al ac),.agg #[.int .i64 1,.string wd,.string un,.slice ka kl kc]] w fun e w'=>e=.returned (.bool true)/\Below w.heap.size w w':=by have B2:Hid (Below w.heap.size w ((w.alloc (.cells #[.string p.root,.slice pa pl pc,.slice fa fl fc,.slice aa al ac,.bool p.aU,.bool p.texts] 82)).alloc (.cells #[.int .i64 1,.string wd,.string un,.slice ka kl kc] 199))):=fJ _ _ _;unfold dF;go_in;go_wp2_with fail;go_ret;exact⟨rfl,B2.o⟩
theorem alc:Calls prog 189 #[dF p (.slice pa pl pc) (.slice fa fl fc) (.slice aa al ac),.agg #[.int .i64 4,.string wd,.string un,.slice ka kl kc]] w fun e w'=>e=.returned (.bool true)/\Below w.heap.size w w':=by have B2:Hid (Below w.heap.size w ((w.alloc (.cells #[.string p.root,.slice pa pl pc,.slice fa fl fc,.slice aa al ac,.bool p.aU,.bool p.texts] 82)).alloc (.cells #[.int .i64 4,.string wd,.string un,.slice ka kl kc] 199))):=fJ _ _ _;unfold dF;go_in;go_wp2_with fail;go_ret;exact⟨rfl,B2.o⟩
theorem ald:Calls prog 189 #[dF p (.slice pa pl pc) (.slice fa fl fc) (.slice aa al ac),.agg #[.int .i64 5,.string wd,.string un,.slice ka kl kc]] w fun e w'=>e=.returned (.bool true)/\Below w.heap.size w w':=by have B2:Hid (Below w.heap.size w ((w.alloc (.cells #[.string p.root,.slice pa pl pc,.slice fa fl fc,.slice aa al ac,.bool p.aU,.bool p.texts] 82)).alloc (.cells #[.int .i64 5,.string wd,.string un,.slice ka kl kc] 199))):=fJ _ _ _;unfold dF;go_in;go_wp2_with fail;go_ret;exact⟨rfl,B2.o⟩
theorem ale:Calls prog 189 #[dF p (.slice pa pl pc) (.slice fa fl fc) (.slice aa al ac),.agg #[.int .i64 6,.string wd,.string un,.slice ka kl kc]] w fun e w'=>e=.returned (.bool true)/\Below w.heap.size w w':=by have B2:Hid (Below w.heap.size w ((w.alloc (.cells #[.string p.root,.slice pa pl pc,.slice fa fl fc,.slice aa al ac,.bool p.aU,.bool p.texts] 82)).alloc (.cells #[.int .i64 6,.string wd,.string un,.slice ka kl kc] 199))):=fJ _ _ _;unfold dF;go_in;go_wp2_with fail;go_ret;exact⟨rfl,B2.o⟩
theorem alf:Calls prog 189 #[dF p (.slice pa pl pc) (.slice fa fl fc) (.slice aa al ac),.agg #[.int .i64 7,.string wd,.string un,.slice ka kl kc]] w fun e w'=>e=.returned (.bool true)/\Below w.heap.size w w':=by have B2:Hid (Below w.heap.size w ((w.alloc (.cells #[.string p.root,.slice pa pl pc,.slice fa fl fc,.slice aa al ac,.bool p.aU,.bool p.texts] 82)).alloc (.cells #[.int .i64 7,.string wd,.string un,.slice ka kl kc] 199))):=fJ _ _ _;unfold dF;go_in;go_wp2_with fail;go_ret;exact⟨rfl,B2.o⟩
theorem ajk:Calls prog 189 #[dF p (.slice pa pl pc) (.slice fa fl fc) (.slice aa al ac),.agg #[.int .i64 14,.string wd,.string un,.slice ka kl kc]] w fun e w'=>e=.returned (.bool true)/\Below w.heap.size w w':=by have B2:Hid (Below w.heap.size w ((w.alloc (.cells #[.string p.root,.slice pa pl pc,.slice fa fl fc,.slice aa al ac,.bool p.aU,.bool p.texts] 82)).alloc (.cells #[.int .i64 14,.string wd,.string un,.slice ka kl kc] 199))):=fJ _ _ _;unfold dF;go_in;go_wp2_with fail;go_ret;exact⟨rfl,B2.o⟩
theorem alg:Calls prog 189 #[dF p (.slice pa pl pc) (.slice fa fl fc) (.slice aa al ac),.agg #[.int .i64 3,.string wd,.string un,.slice ka kl kc]] w fun e w'=>e=.returned (.bool false)/\Below w.heap.size w w':=by have B2:Hid (Below w.heap.size w ((w.alloc (.cells #[.string p.root,.slice pa pl pc,.slice fa fl fc,.slice aa al ac,.bool p.aU,.bool p.texts] 82)).alloc (.cells #[.int .i64 3,.string wd,.string un,.slice ka kl kc] 199))):=fJ _ _ _;unfold dF;go_in;go_wp2_with fail;go_ret;exact⟨rfl,B2.o⟩
theorem alh:Calls prog 189 #[dF p (.slice pa pl pc) (.slice fa fl fc) (.slice aa al ac),.agg #[.int .i64 8,.string wd,.string un,.slice ka kl kc]] w fun e w'=>e=.returned (.bool false)/\Below w.heap.size w w':=by have B2:Hid (Below w.heap.size w ((w.alloc (.cells #[.string p.root,.slice pa pl pc,.slice fa fl fc,.slice aa al ac,.bool p.aU,.bool p.texts] 82)).alloc (.cells #[.int .i64 8,.string wd,.string un,.slice ka kl kc] 199))):=fJ _ _ _;unfold dF;go_in;go_wp2_with fail;go_ret;exact⟨rfl,B2.o⟩
theorem ali:Calls prog 189 #[dF p (.slice pa pl pc) (.slice fa fl fc) (.slice aa al ac),.agg #[.int .i64 9,.string wd,.string un,.slice ka kl kc]] w fun e w'=>e=.returned (.bool false)/\Below w.heap.size w w':=by have B2:Hid (Below w.heap.size w ((w.alloc (.cells #[.string p.root,.slice pa pl pc,.slice fa fl fc,.slice aa al ac,.bool p.aU,.bool p.texts] 82)).alloc (.cells #[.int .i64 9,.string wd,.string un,.slice ka kl kc] 199))):=fJ _ _ _;unfold dF;go_in;go_wp2_with fail;go_ret;exact⟨rfl,B2.o⟩
theorem ajl:Calls prog 189 #[dF p (.slice pa pl pc) (.slice fa fl fc) (.slice aa al ac),.agg #[.int .i64 10,.string wd,.string un,.slice ka kl kc]] w fun e w'=>e=.returned (.bool false)/\Below w.heap.size w w':=by have B2:Hid (Below w.heap.size w ((w.alloc (.cells #[.string p.root,.slice pa pl pc,.slice fa fl fc,.slice aa al ac,.bool p.aU,.bool p.texts] 82)).alloc (.cells #[.int .i64 10,.string wd,.string un,.slice ka kl kc] 199))):=fJ _ _ _;unfold dF;go_in;go_wp2_with fail;go_ret;exact⟨rfl,B2.o⟩
theorem ajm:Calls prog 189 #[dF p (.slice pa pl pc) (.slice fa fl fc) (.slice aa al ac),.agg #[.int .i64 12,.string wd,.string un,.slice ka kl kc]] w fun e w'=>e=.returned (.bool false)/\Below w.heap.size w w':=by have B2:Hid (Below w.heap.size w ((w.alloc (.cells #[.string p.root,.slice pa pl pc,.slice fa fl fc,.slice aa al ac,.bool p.aU,.bool p.texts] 82)).alloc (.cells #[.int .i64 12,.string wd,.string un,.slice ka kl kc] 199))):=fJ _ _ _;unfold dF;go_in;go_wp2_with fail;go_ret;exact⟨rfl,B2.o⟩
theorem ajn:Calls prog 189 #[dF p (.slice pa pl pc) (.slice fa fl fc) (.slice aa al ac),.agg #[.int .i64 13,.string wd,.string un,.slice ka kl kc]] w fun e w'=>e=.returned (.bool false)/\Below w.heap.size w w':=by have B2:Hid (Below w.heap.size w ((w.alloc (.cells #[.string p.root,.slice pa pl pc,.slice fa fl fc,.slice aa al ac,.bool p.aU,.bool p.texts] 82)).alloc (.cells #[.int .i64 13,.string wd,.string un,.slice ka kl kc] 199))):=fJ _ _ _;unfold dF;go_in;go_wp2_with fail;go_ret;exact⟨rfl,B2.o⟩
theorem ajo:Calls prog 189 #[dF p (.slice pa pl pc) (.slice fa fl fc) (.slice aa al ac),.agg #[.int .i64 15,.string wd,.string un,.slice ka kl kc]] w fun e w'=>e=.returned (.bool (sgB wd))/\Below w.heap.size w w':=by have B2:Hid (Below w.heap.size w ((w.alloc (.cells #[.string p.root,.slice pa pl pc,.slice fa fl fc,.slice aa al ac,.bool p.aU,.bool p.texts] 82)).alloc (.cells #[.int .i64 15,.string wd,.string un,.slice ka kl kc] 199))):=fJ _ _ _;unfold dF;go_in;go_wp2_with fail;refine pmb (RP wd _) fun wq hwq=>?_;rw[hwq];go_wp2_with fail;go_ret;exact⟨rfl,B2.o⟩
end
end
section
attribute [local go_sem] bI bJ aX aY
theorem Q6.drew{w:WD}{b:Nat}{x0 x1 x2 x3 x4 x5:Av}(h:Q6 w b x0 x1 x2 x3 x4 x5):Q6 w.drew b x0 x1 x2 x3 x4 x5:=h
theorem ajp(B:Nat)(p:aF)(pa fa aa:Option Addr)(pl pc fc al ac:Nat)(wd un:BY)(ka:Option Addr)(kl kc:Nat)(w:WD)(hf:SG eX 1 (fun b=>b<B) w (.slice fa p.aJ.length fc) p.aJ)(hB:B<=w.heap.size)(hw:wd.size<=4000000):
  Calls prog 189 #[dF p (.slice pa pl pc) (.slice fa p.aJ.length fc) (.slice aa al ac),.agg #[.int .i64 11,.string wd,.string un,.slice ka kl kc]] w fun e w'=>e=.returned (.bool (p.aJ.contains (small wd)))/\Below w.heap.size w w':=by
 have B2:Hid (Below w.heap.size w ((w.alloc (.cells #[.string p.root,.slice pa pl pc,.slice fa p.aJ.length fc,.slice aa al ac,.bool p.aU,.bool p.texts] 82)).alloc (.cells #[.int .i64 11,.string wd,.string un,.slice ka kl kc] 199)).drew):=(fJ w _ _).drew;have P2:Hid (Q6 ((w.alloc (.cells #[.string p.root,.slice pa pl pc,.slice fa p.aJ.length fc,.slice aa al ac,.bool p.aU,.bool p.texts] 82)).alloc (.cells #[.int .i64 11,.string wd,.string un,.slice ka kl kc] 199)).drew w.heap.size (.string p.root) (.slice pa pl pc) (.slice fa p.aJ.length fc) (.slice aa al ac) (.bool p.aU) (.bool p.texts)):=(Q6.new w _ _ _ _ _ _).alloc _
 have A2:Hid (VB ((w.alloc (.cells #[.string p.root,.slice pa pl pc,.slice fa p.aJ.length fc,.slice aa al ac,.bool p.aU,.bool p.texts] 82)).alloc (.cells #[.int .i64 11,.string wd,.string un,.slice ka kl kc] 199)).drew (w.heap.size+1) (.int .i64 11) (.string wd) (.string un) (.slice ka kl kc)):=by have:=VB.new (w.alloc (.cells #[.string p.root,.slice pa pl pc,.slice fa p.aJ.length fc,.slice aa al ac,.bool p.aU,.bool p.texts] 82)) (.int .i64 11) (.string wd) (.string un) (.slice ka kl kc);rw[show(w.alloc (.cells #[.string p.root,.slice pa pl pc,.slice fa p.aJ.length fc,.slice aa al ac,.bool p.aU,.bool p.texts] 82)).heap.size=w.heap.size+1 by simp]at this;exact this
 have F2:Hid (SG eX 1 (fun b=>b<B) ((w.alloc (.cells #[.string p.root,.slice pa pl pc,.slice fa p.aJ.length fc,.slice aa al ac,.bool p.aU,.bool p.texts] 82)).alloc (.cells #[.int .i64 11,.string wd,.string un,.slice ka kl kc] 199)).drew (.slice fa p.aJ.length fc) p.aJ):=hf.below eX.fair B2.o hB;clear hf;unfold dF;go_in;go_wp2_with fail;refine wp_region_any An ?_;change wpAny _ _ _ _ _ _ _ (World.drew _);generalize((w.alloc (.cells #[.string p.root,.slice pa pl pc,.slice fa p.aJ.length fc,.slice aa al ac,.bool p.aU,.bool p.texts] 82)).alloc (.cells #[.int .i64 11,.string wd,.string un,.slice ka kl kc] 199)).drew=w2 at *;have hs2:=B2.o.size
 have Qi:Hid (Q6 w2 w.heap.size (.string p.root) (.slice pa pl pc) (.slice fa p.aJ.length fc) (.slice aa al ac) (.bool p.aU) (.bool p.texts)/\VB w2 (w.heap.size+1) (.int .i64 11) (.string wd) (.string un) (.slice ka kl kc)):=⟨P2.o,A2.o⟩;refine wpAny_of_held (S:=fun wx=>Q6 wx w.heap.size (.string p.root) (.slice pa pl pc) (.slice fa p.aJ.length fc) (.slice aa al ac) (.bool p.aU) (.bool p.texts)/\VB wx (w.heap.size+1) (.int .i64 11) (.string wd) (.string un) (.slice ka kl kc)) _ _ _ _ ?_;refine dH 0 rfl Qi.o (by intro w hSw;obtain⟨a0,a1,a2,a3,a4,a5⟩:=hSw.1.cs;exact gs) ?_;refine dH 1 rfl Qi.o (by intro w hSw;obtain⟨a0,a1,a2,a3,a4,a5⟩:=hSw.1.cs;exact gs) ?_;refine dH 2 rfl Qi.o (by intro w hSw;obtain⟨a0,a1,a2,a3,a4,a5⟩:=hSw.1.cs;exact gs) ?_
 refine dH 3 rfl Qi.o (by intro w hSw;obtain⟨a0,a1,a2,a3⟩:=hSw.2.cs;exact gs) ?_;refine dH 4 rfl Qi.o (by intro w hSw;obtain⟨a0,a1,a2,a3⟩:=hSw.2.cs;exact gs) ?_;refine dH 5 rfl Qi.o (by intro w hSw;obtain⟨a0,a1,a2,a3⟩:=hSw.2.cs;exact gs) ?_;refine iW 6 fun K hK=>?_;go_simp;refine pmb (nH wd _ hw) fun w3 hb3=>?_;have B3:=hid (B2.o.trans (hb3.mono hs2));have OC:Hid (Q6 w3 w.heap.size (.string p.root) (.slice pa pl pc) (.slice fa p.aJ.length fc) (.slice aa al ac) (.bool p.aU) (.bool p.texts)/\VB w3 (w.heap.size+1) (.int .i64 11) (.string wd) (.string un) (.slice ka kl kc)):=⟨Qi.o.1.below hb3 Qi.o.1.lt,Qi.o.2.below hb3⟩;have F3:=hid (F2.o.below eX.fair hb3 oo);clear hb3
 refine hK.o _ _ OC.o (fun _=>?_);clear hK K;refine iW 7 fun K hK=>?_;go_simp;refine pmb (YL _ p.aJ _ (small wd) w3 F3.o) fun w4 hw4=>?_;rw[hw4];refine hK.o _ _ OC.o (fun _=>?_);clear hK K;refine iW 8 fun K hK=>?_;go_simp;refine hK.o _ _ (OC.o) (fun _=>?_);clear hK K;refine wpAnyH_done An ?_ _;go_wp2_with fail;go_ret;exact⟨rfl,B3.o⟩
def Qj(t:Tok):Bool:=decide (1<=t.kind)&&decide (t.kind<=15)
def OJ(l:List Nd):Prop:=jg (fun t=>!Qj t) l=false
theorem Nk(g:Tok->Bool)(n:Nd)(r:List Nd):jg g (n::r)=(g n.t||jg g n.kids||jg g r):=by
 obtain⟨t,k⟩:=n;conv=>lhs;unfold jg;unfold Qz
 rfl
theorem Jb{n:Nd}{r:List Nd}(h:OJ (n::r)):Qj n.t=true/\OJ n.kids/\OJ r:=by unfold OJ at h;rw[Nk]at h;simp only[Bool.or_eq_false_iff,Bool.not_eq_false']at h;exact⟨h.1.1,h.1.2,h.2⟩
theorem pz(p:aF)(n:Nd)(r:List Nd):eH p (n::r)=(oI p n.t&&eH p n.kids&&eH p r):=by unfold eH;rw[Nk];cases oI p n.t<;>simp
theorem agr(B:Nat)(p:aF)(pv fv av:Av)(t:Tok)(ka:Option Addr)(kl kc:Nat)(w:WD)(h:jK B w p pv fv av)(hk:Qj t=true)(hw:t.word.size<=4000000):
  Calls prog 189 #[dF p pv fv av,fB t (.slice ka kl kc)] w fun e w'=>e=.returned (.bool (oI p t))/\Below w.heap.size w w':=by
 obtain⟨pa,pc,rfl⟩:=h.props.form;obtain⟨fa,fc,rfl⟩:=h.aJ.form;obtain⟨aa,ac,rfl⟩:=h.ats.form;obtain⟨kd,wd,un⟩:=t;unfold Qj at hk;simp only[Bool.and_eq_true,decide_eq_true_eq]at hk;unfold fB;rcases(show kd=1\/kd=2\/kd=3\/kd=4\/kd=5\/kd=6\/kd=7\/kd=8\/kd=9\/kd=10\/kd=11\/kd=12\/kd=13\/kd=14\/kd=15 by omega)with e|e|e|e|e|e|e|e|e|e|e|e|e|e|e<;>subst e
 .exact alb _ _ _ _ _ _ _ _ _ _ _ _ _ _ _ w
 .exact ala _ _ _ _ _ _ _ _ _ _ _ _ _ _ _ w
 .exact alg _ _ _ _ _ _ _ _ _ _ _ _ _ _ _ w
 .exact alc _ _ _ _ _ _ _ _ _ _ _ _ _ _ _ w
 .exact ald _ _ _ _ _ _ _ _ _ _ _ _ _ _ _ w
 .exact ale _ _ _ _ _ _ _ _ _ _ _ _ _ _ _ w
 .exact alf _ _ _ _ _ _ _ _ _ _ _ _ _ _ _ w
 .exact alh _ _ _ _ _ _ _ _ _ _ _ _ _ _ _ w
 .exact ali _ _ _ _ _ _ _ _ _ _ _ _ _ _ _ w
 .exact ajl _ _ _ _ _ _ _ _ _ _ _ _ _ _ _ w
 .exact ajp B p _ _ _ _ _ _ _ _ _ _ _ _ _ w h.aJ h.lt hw
 .exact ajm _ _ _ _ _ _ _ _ _ _ _ _ _ _ _ w
 .exact ajn _ _ _ _ _ _ _ _ _ _ _ _ _ _ _ w
 .exact ajk _ _ _ _ _ _ _ _ _ _ _ _ _ _ _ w
 .have e:=ajj ⟨15,wd,un⟩ rfl;have e2:oI p ⟨15,wd,un⟩=sgB wd:=by show(!decide (closing ⟨15,wd,un⟩=aA)||vk wd)=_;exact e.symm
  rw[e2];exact ajo _ _ _ _ _ _ _ _ _ _ _ _ _ _ _ w
end
section
attribute [local go_sem] bI bJ aX aY
def Jc(l:List Nd):Prop:=∀(B:Nat) (p:aF) (pv fv av v:Av) (w:WD),jK B w p pv fv av->Sl (fun b=>b<B) w v l->OJ l->Calls prog 117 #[dF p pv fv av,v] w fun e w'=>e=.returned (.bool (eH p l))/\Below w.heap.size w w'
theorem RQ:∀(l:List Nd) (i:Nat),OJ l->OJ (l.drop i)
 |l,0,h=>by simpa using h
 |[],i+1,h=>h
 |n::r,i+1,h=>by simpa using RQ r i (Jb h).2.2
theorem zY(l:List Nd)(hrec:∀n∈l,Jc n.kids):Jc l:=by
 intro B p pv fv av v w hP h hkd;have FU:=h.len;have hB:=hP.lt;have HS:=hid h;have HR:=hid hrec;have HKD:=hid hkd;obtain⟨a,cap,rfl⟩:=h.form;obtain⟨pa,pc,rfl⟩:=hP.props.form;obtain⟨fa,fc,rfl⟩:=hP.aJ.form;obtain⟨aa,ac,rfl⟩:=hP.ats.form;have HP:=hid hP;clear h hrec hkd hP;obtain⟨B0,Q0⟩:=Q6.nb p pa fa aa pc fc ac w;unfold dF;go_in;go_upto_region 1 with fail
 have hsz0:=B0.o.size;have hlt0:=Q0.o.lt;generalize w.alloc (.cells #[.string p.root,.slice pa p.props.length pc,.slice fa p.aJ.length fc,.slice aa p.ats.length ac,.bool p.aU,.bool p.texts] 82)=w0 at *;obtain⟨rb,zV⟩:=Nm w.heap.size;rw[zV.o]at B0 Q0 hB hlt0 hsz0⊢;have wX:=hid (HP.o.below B0.o hB);have HS0:=hid (HS.o.below B0.o hB);clear HP HS;go_wp2_with fail;go_loopg[9] l.length (fun gg v9 wr=>∃i:Nat,v9=.int .i64 (i:Int)/\i+gg=l.length/\Aside (Below w0.heap.size w0 wr/\eH p l=eH p (l.drop i)));case atStart=>exact⟨0,rfl,oo,As,by simp⟩
 case round=>
  obtain⟨i,rfl,hi,hA⟩:=hrel;have BR:=hid hA.o.1;have HE:=hid hA.o.2;clear hA;have hsr:=BR.o.size;by_cases hlt:i<l.length
  .have h1:(i:Int)<(l.length:Int):=oo;have S1:=HS0.o.below BR.o oo;obtain⟨g,o,rfl,hL,hcap⟩:=S1.here (by rintro rfl;simp at hlt);obtain⟨kv,hN⟩:=hL.node (i:=i) hlt;obtain⟨n,hn⟩:∃n,n=l[i]:=⟨_,rfl⟩;have HM:Hid (n∈l):=by rw[hn];exact List.getElem_mem _
   have Hdr:Hid (l.drop i=n::l.drop (i+1)):=by show _=_;rw[hn];exact List.drop_eq_getElem_cons hlt
   rw[<-hn]at hN;have HKS:Hid (Qj n.t=true/\OJ n.kids):=by have:=RQ l i HKD.o;rw[Hdr.o]at this;exact⟨(Jb this).1,(Jb this).2.1⟩
   have HE2:Hid (eH p l=(oI p n.t&&eH p n.kids&&eH p (l.drop (i+1)))):=by show _=_;rw[HE.o,Hdr.o,pz]
   have hwd:=hN.ok.word;have HKV:=hid hN.k;obtain⟨ka,kc,rfl⟩:=hN.k.form;have d0:=hN.c0;have d1:=hN.c1;have d2:=hN.c2;have d3:=hN.c3;clear hN hL S1 hn;have A2:Hid (VB (wr.alloc (.cells #[.int .i64 n.t.kind,.string n.t.word,.string n.t.unit,.slice ka n.kids.length kc] 199)) wr.heap.size (.int .i64 n.t.kind) (.string n.t.word) (.string n.t.unit) (.slice ka n.kids.length kc)):=VB.new _ _ _ _ _;have X2:Hid (Below wr.heap.size wr (wr.alloc (.cells #[.int .i64 n.t.kind,.string n.t.word,.string n.t.unit,.slice ka n.kids.length kc] 199))):=As.alloc nl _;go_upto_region 4 with fail
   generalize wr.alloc (.cells #[.int .i64 n.t.kind,.string n.t.word,.string n.t.unit,.slice ka n.kids.length kc] 199)=w2 at *;obtain⟨gt,mV⟩:=Nm wr.heap.size;have A3:Hid (VB w2 gt (.int .i64 n.t.kind) (.string n.t.word) (.string n.t.unit) (.slice ka n.kids.length kc)):=by rw[<-mV.o];exact A2.o
   rw[mV.o];clear A2 d0 d1 d2 d3;obtain⟨a0,a1,a2,a3⟩:=A3.o.cs;have B2:=hid (BR.o.trans (X2.o.mono hsr));have hs2:=B2.o.size;have Q2:=Q0.o.below B2.o hlt0;obtain⟨q0,q1,q2,q3,q4,q5⟩:=Q2.cs;clear Q2;have HMB:=agr B p _ _ _ n.t ka n.kids.length kc w2 (wX.o.below B2.o oo) HKS.o.1 hwd;obtain⟨z,Hz⟩:=Nm (oI p n.t);rw[Hz.o]at HMB HE2;unfold dF fB at HMB;have alj:=hid HMB;clear HMB;go_wp2_with fail;refine alj.o.mono ?_;rintro e w3 ⟨rfl,hb3⟩;have B3:=hid (B2.o.trans (hb3.mono hs2))
   have A4:=hid (A3.o.below hb3);have K3:=hid ((HKV.o.below X2.o oo).below hb3 oo);have hs3:=B3.o.size;clear hb3 a0 a1 a2 a3 q0 q1 q2 q3 q4 q5 alj;obtain⟨a0,a1,a2,a3⟩:=A4.o.cs;have Q3':=Q0.o.below B3.o hlt0;obtain⟨q0,q1,q2,q3,q4,q5⟩:=Q3'.cs;clear Q3';cases z
   .have HV:Hid (eH p l=false):=HE2.o;go_wp2_with fail;go_ret;exact⟨aC HV.o.symm,by rw[zV.o];exact B0.o.trans (B3.o.mono hsz0)⟩
   .have HC:=HR.o n HM.o B p (.slice pa p.props.length pc) (.slice fa p.aJ.length fc) (.slice aa p.ats.length ac) (.slice ka n.kids.length kc) w3 (wX.o.below B3.o oo) K3.o HKS.o.2;obtain⟨z2,Hz2⟩:=Nm (eH p n.kids);rw[Hz2.o]at HC HE2;unfold dF at HC;have HC':Hid (Calls prog 117 #[.agg #[.string p.root,.slice pa p.props.length pc,.slice fa p.aJ.length fc,.slice aa p.ats.length ac,.bool p.aU,.bool p.texts],.slice ka n.kids.length kc] w3 fun e w'=>e=.returned (.bool z2)/\Below w3.heap.size w3 w'):=HC;clear HC;go_wp2_with fail;refine HC'.o.mono ?_;rintro e w4 ⟨rfl,hb4⟩;have B4:=hid (B3.o.trans (hb4.mono hs3));clear hb4 HC' a0 a1 a2 a3 q0 q1 q2 q3 q4 q5;cases z2
    .have HV:Hid (eH p l=false):=HE2.o;go_wp2_with fail;go_ret;exact⟨aC HV.o.symm,by rw[zV.o];exact B0.o.trans (B4.o.mono hsz0)⟩
    .have HV:Hid (eH p l=eH p (l.drop (i+1))):=HE2.o;go_wp2_with fail;go_roundg(gk-1);case measure=>omega
     case rel=>exact⟨i+1,by congr 1,oo,B4.o,HV.o⟩
  .have h1:(l.length:Int)<=(i:Int):=oo;have HV:Hid (eH p l=true):=by show _=_;rw[HE.o,List.drop_of_length_le oo];rfl
   go_wp2_with fail;go_ret;exact⟨aC HV.o.symm,by rw[zV.o];exact B0.o.trans (BR.o.mono hsz0)⟩
theorem LH:∀(k:Nat) (l:List Nd),dL l<=k->Jc l:=by
 intro k;induction k with
 |zero=>intro l h;refine zY l fun n hn=>?_;have:=nK l n hn;obtain⟨t,q⟩:=n;unfold Cc at this;omega
 |succ k ih=>intro l h;refine zY l fun n hn=>ih _ ?_;have:=nK l n hn;obtain⟨t,q⟩:=n;unfold Cc at this;show dL q<=k;omega
theorem Dh(l:List Nd):Jc l:=LH _ l nl
end
section
attribute [local go_sem] bI bJ aX aY
section
variable (B:Nat) (p:aF) (pv fv av:Av) (w:WD)
theorem aaz(h:jK B w p pv fv av):Calls prog 123 #[dF p pv fv av] w fun e w'=>e=.returned (.string p.root)/\Below w.heap.size w w':=by obtain⟨pa,pc,rfl⟩:=h.props.form;obtain⟨fa,fc,rfl⟩:=h.aJ.form;obtain⟨aa,ac,rfl⟩:=h.ats.form;have B0:Hid (Below w.heap.size w (w.alloc (.cells #[.string p.root,.slice pa p.props.length pc,.slice fa p.aJ.length fc,.slice aa p.ats.length ac,.bool p.aU,.bool p.texts] 82))):=As.alloc nl _;clear h;unfold dF;go_in;go_wp2_with fail;go_ret;exact⟨rfl,B0.o⟩
theorem LJ(x:BY)(h:jK B w p pv fv av):Calls prog 116 #[dF p pv fv av,.string x] w fun e w'=>e=.returned (.bool (p.ats.contains x))/\Below w.heap.size w w':=by obtain⟨pa,pc,rfl⟩:=h.props.form;obtain⟨fa,fc,rfl⟩:=h.aJ.form;obtain⟨aa,ac,rfl⟩:=h.ats.form;have B0:Hid (Below w.heap.size w (w.alloc (.cells #[.string p.root,.slice pa p.props.length pc,.slice fa p.aJ.length fc,.slice aa p.ats.length ac,.bool p.aU,.bool p.texts] 82))):=As.alloc nl _;have HA:=hid (h.ats.below eX.fair B0.o h.lt);clear h;unfold dF;go_in;go_wp2_with fail;refine pmb (YL _ p.ats _ x _ HA.o) fun wq hwq=>?_;rw[hwq];go_wp2_with fail;go_ret;exact⟨rfl,B0.o⟩
theorem F6(x:BY)(h:jK B w p pv fv av):Calls prog 193 #[dF p pv fv av,.string x] w fun e w'=>e=.returned (.bool (if custom x=true then p.aU else p.props.contains x))/\Below w.heap.size w w':=by
 obtain⟨pa,pc,rfl⟩:=h.props.form;obtain⟨fa,fc,rfl⟩:=h.aJ.form;obtain⟨aa,ac,rfl⟩:=h.ats.form;have B0:Hid (Below w.heap.size w (w.alloc (.cells #[.string p.root,.slice pa p.props.length pc,.slice fa p.aJ.length fc,.slice aa p.ats.length ac,.bool p.aU,.bool p.texts] 82))):=As.alloc nl _;have HA:=hid (h.props.below eX.fair B0.o h.lt)
 have Q0:Hid (Q6 (w.alloc (.cells #[.string p.root,.slice pa p.props.length pc,.slice fa p.aJ.length fc,.slice aa p.ats.length ac,.bool p.aU,.bool p.texts] 82)) w.heap.size (.string p.root) (.slice pa p.props.length pc) (.slice fa p.aJ.length fc) (.slice aa p.ats.length ac) (.bool p.aU) (.bool p.texts)):=Q6.new _ _ _ _ _ _ _;clear h;obtain⟨z,Hz⟩:=Nm (custom x);rw[Hz.o];unfold dF;go_in;go_wp2_with fail;generalize w.alloc (.cells #[.string p.root,.slice pa p.props.length pc,.slice fa p.aJ.length fc,.slice aa p.ats.length ac,.bool p.aU,.bool p.texts] 82)=w0 at *;obtain⟨q0,q1,q2,q3,q4,q5⟩:=Q0.o.cs;refine(rE x _).mono ?_;rw[Hz.o];rintro e wq ⟨rfl,hwq⟩;rw[hwq];clear hwq;cases z
 .go_wp2_with fail;refine pmb (YL _ p.props _ x _ HA.o) fun wq hwq=>?_;rw[hwq];go_wp2_with fail;go_ret;exact⟨rfl,B0.o⟩
 .go_wp2_with fail;go_ret;exact⟨rfl,B0.o⟩
end
def lwI(c:Int):Bool:=decide (97<=c)&&decide (c<=122)
theorem ain(c:UInt8):lwI (c.toNat:Int)=jh c:=by unfold lwI jh;rw[Bool.eq_iff_iff];simp;omega
def ldI(c:Int):Bool:=lwI c||c==45
theorem alk(c:UInt8):ldI (c.toNat:Int)=(jh c||c==45):=by unfold ldI;rw[ain,show(c==45)=((c.toNat:Int)==45) from tZ c 45 oo]
theorem Nl(c:Int)(w:WD):Calls prog 171 #[.int .u8 c] w fun e w'=>e=.returned (.bool (lwI c))/\w'=w:=by
 go_in;go_wp2
 all_goals
  go_ret;exact⟨aC (by rw[Bool.eq_iff_iff];simp[lwI, *]<;>omega),rfl⟩
theorem F7(c:Int)(w:WD):Calls prog 234 #[.int .u8 c] w fun e w'=>e=.returned (.bool (ldI c))/\w'=w:=by
 cases h1:lwI c;all_goals
  go_in;go_wp2_with(go_at_call 171;refine(Nl _ _).mono ?_;rintro e w' ⟨rfl,rfl⟩);go_ret;exact⟨aC (by simp[ldI,h1]),rfl⟩
theorem acX(s:BY)(g:Nat)(f:UInt8->Bool)(w:WD)(hs:s.size<=4194304)
  (hg:∀(args:Array Av) (w:WD),(callFunc g args).run prog w=.ok (.enter g args) w)
  (hf:∀(c:UInt8) (w:WD),Calls prog g (#[.int .u8 (c.toNat:Int)] ++ #[]) w fun e w'=>e=.returned (.bool (f c))/\w'=w):
  Calls prog 170 #[.string s,.func (.func g) #[] #[]] w fun e w'=>e=.returned (.bool (allB f s))/\w'=w:=by
 have HF:=hid hf;clear hf;go_in;go_wp2_with fail;go_loopg[8] s.size (fun gg v8 wr=>∃k:Nat,k+gg=s.size/\v8=.int .i64 (k:Int)/\Aside (rJ f s k=true/\wr=w));case atStart=>exact⟨0,oo,rfl,rfl,rfl⟩
 case round=>
  obtain⟨k,hk,rfl,hA⟩:=hrel;have HA:=hid hA.o.1;obtain rfl:=hA.o.2;clear hA;by_cases hlt:k<s.size
  .have h1:(k:Int)<(s.size:Int):=oo;have hix:=gQ s k hlt;rw[Ie hlt,MJ hlt]at hix;have HC:=HF.o s[k] wr;obtain⟨z,Hz⟩:=Nm (f s[k]);rw[Hz.o]at HC;have HC':Hid (Calls prog g (#[.int .u8 (s[k].toNat:Int)] ++ #[]) wr fun e w'=>e=.returned (.bool z)/\w'=wr):=HC;clear HC;go_wp2_with fail;refine HC'.o.mono ?_;rintro e wq ⟨rfl,hwq⟩;rw[hwq];clear hwq;cases z
   .have HV:Hid (allB f s=false):=x9 f hlt Hz.o;go_wp2_with fail;go_ret;exact⟨aC HV.o.symm,rfl⟩
   .have HN:Hid (rJ f s (k+1)=true):=by show _=_;rw[vU f hlt,HA.o,Hz.o];rfl
    go_wp2_with fail;go_roundg(gk-1);case measure=>omega
    case rel=>exact⟨k+1,oo,by congr 1,HN.o,rfl⟩
  .have h1:(s.size:Int)<=(k:Int):=oo;have HV:Hid (allB f s=true):=by
    show _=_;rw[<-Eu];have:k=s.size:=oo;rw[<-this];exact HA.o
   go_wp2_with fail;go_ret;exact⟨aC HV.o.symm,rfl⟩
end
section
attribute [local go_sem] bI bJ aX aY
theorem RS(zs:List BY)(v:Av)(g:Nat)(f:BY->Bool)(S:Nat->Prop)(w:WD)(h:SG eX 1 S w v zs)
  (hg:∀(args:Array Av) (w:WD),(callFunc g args).run prog w=.ok (.enter g args) w)
  (hf:∀(x:BY) (w:WD),x.size<=4194304->Calls prog g (#[.string x] ++ #[]) w fun e w'=>e=.returned (.bool (f x))/\w'=w):
  Calls prog 91 #[v,.func (.func g) #[] #[]] w fun e w'=>∃i:Int,e=.returned (.int .i64 i)/\decide (0<=i)=zs.any f/\w'=w:=by
 have hl:=h.len;have HS:=hid h;have HF:=hid hf;obtain⟨a,cap,rfl⟩:=h.form;clear h hf;go_in;go_wp2_with fail;go_loopg[8] zs.length (fun gg v8 wr=>∃k:Nat,k+gg=zs.length/\v8=.int .i64 (k:Int)/\Aside (zs.any f=(zs.drop k).any f/\wr=w));case atStart=>exact⟨0,oo,rfl,by simp,rfl⟩
 case round=>
  obtain⟨k,hk,rfl,hA⟩:=hrel;have HA:=hid hA.o.1;obtain rfl:=hA.o.2;clear hA;by_cases hlt:k<zs.length
  .have h1:(k:Int)<(zs.length:Int):=oo;obtain⟨g',o,rfl,hL,hcap⟩:=HS.o.here (by rintro rfl;simp at hlt);obtain⟨_,c0,hxs⟩:=hL.str (i:=k) hlt;have HA2:Hid (zs.any f=(f zs[k]||(zs.drop (k+1)).any f)):=by show _=_;rw[HA.o,List.drop_eq_getElem_cons hlt];rfl
   generalize zs[k]=x at *;have HC:=HF.o x wr hxs;obtain⟨z,Hz⟩:=Nm (f x);rw[Hz.o]at HC HA2;have HC':Hid (Calls prog g (#[.string x] ++ #[]) wr fun e w'=>e=.returned (.bool z)/\w'=wr):=HC;clear HC hL;go_wp2_with fail;refine HC'.o.mono ?_;rintro e wq ⟨rfl,hwq⟩;rw[hwq];clear hwq;cases z
   .go_wp2_with fail;go_roundg(gk-1);case measure=>omega
    case rel=>exact⟨k+1,oo,by congr 1,HA2.o,rfl⟩
   .have HV:Hid (zs.any f=true):=HA2.o;go_wp2_with fail;go_ret;exact⟨_,rfl,by rw[HV.o];exact decide_eq_true oo,rfl⟩
  .have h1:(zs.length:Int)<=(k:Int):=oo;have HV:Hid (zs.any f=false):=by show _=_;rw[HA.o,List.drop_of_length_le oo];rfl
   go_wp2_with fail;go_ret;exact⟨_,rfl,by rw[HV.o];rfl,rfl⟩
theorem rM(zs:List BY)(v:Av)(g:Nat)(f:BY->Bool)(S:Nat->Prop)(w:WD)(h:SG eX 1 S w v zs)
  (hg:∀(args:Array Av) (w:WD),(callFunc g args).run prog w=.ok (.enter g args) w)
  (hf:∀(x:BY) (w:WD),x.size<=4194304->Calls prog g (#[.string x] ++ #[]) w fun e w'=>e=.returned (.bool (f x))/\w'=w):
  Calls prog 59 #[v,.func (.func g) #[] #[]] w fun e w'=>e=.returned (.bool (zs.any f))/\w'=w:=by
 have HI:Hid (Calls prog 91 #[v,.func (.func g) #[] #[]] w fun e w'=>∃i:Int,e=.returned (.int .i64 i)/\decide (0<=i)=zs.any f/\w'=w):=RS zs v g f S w h hg hf;obtain⟨a,cap,rfl⟩:=h.form;clear h hf hg;go_in;go_wp2_with fail;refine HI.o.mono ?_;rintro e wq ⟨i,rfl,hi,hwq⟩;rw[hwq];have HV:=hid hi;clear hi hwq;go_wp2_with fail;go_ret;exact⟨aC HV.o,rfl⟩
theorem acY(s:BY)(w:WD)(hs:s.size<=4194304):Calls prog 106 #[.string s] w fun e w'=>e=.returned (.bool (allB jh s&&decide (s.size<=12)))/\w'=w:=by
 have HO:Hid (Calls prog 170 #[.string s,.func (.func 171) #[] #[]] w fun e w'=>e=.returned (.bool (allB jh s))/\w'=w):=acX s 171 jh w hs (fun _ _=>rfl) (fun c w=>by rw[<-ain];exact Nl _ w)
 by_cases h12:s.size<=12
 .have h1:(s.size:Int)<=12:=oo;have HV:Hid ((allB jh s&&decide (s.size<=12))=allB jh s):=by show _=_;rw[decide_eq_true h12];exact Bool.and_true _
  clear h12;rw[HV.o];generalize allB jh s=z at *;go_in;go_wp2_with fail;refine HO.o.mono ?_;rintro e wq ⟨rfl,hwq⟩;rw[hwq];go_wp2_with fail;go_ret;exact⟨rfl,rfl⟩
 .have h1:(12:Int)<(s.size:Int):=oo;have HV:Hid ((allB jh s&&decide (s.size<=12))=false):=by show _=_;rw[decide_eq_false h12];exact Bool.and_false _
  clear h12 HO;rw[HV.o];go_in;go_wp2_with fail;go_ret;exact⟨rfl,rfl⟩
def Jd(s:BY):Bool:=!gK s
theorem Wj(s:BY)(w:WD)(hs:s.size<=4194304):Calls prog 172 #[.string s] w fun e w'=>e=.returned (.bool (Jd s))/\w'=w:=by
 have HO:Hid (Calls prog 170 #[.string s,.func (.func 234) #[] #[]] w fun e w'=>e=.returned (.bool (allB (fun c=>jh c||c==45) s))/\w'=w):=acX s 234 (fun c=>jh c||c==45) w hs (fun _ _=>rfl) (fun c w=>by rw[<-alk];exact F7 _ w)
 have HN:Hid (Jd s = !(allB (fun c=>jh c||c==45) s&&decide (1<=s.size)&&decide (s.size<=30))):=rfl;by_cases he:s.toList=[]
 .have hz:s.size=0:=by rw[fC]at he;rw[<-qJ,he];rfl
  have HV:Hid (Jd s=true):=by show _=_;rw[HN.o,decide_eq_false (show ¬1<=s.size by omega)];simp
  clear hz HO HN;go_in;go_wp2_with fail;go_ret;exact⟨aC HV.o.symm,rfl⟩
 .have hz:1<=s.size:=by
   rcases Nat.eq_zero_or_pos s.size with h|h
   .exact absurd (by rw[fC];exact List.eq_nil_of_length_eq_zero (by rw[qJ];exact h)) he
   .exact h
  have hie:s.toList.isEmpty=false:=by cases hq:s.toList with|nil=>exact absurd hq he|cons _ _=>rfl
  by_cases h30:s.size<=30
  .have h1:(s.size:Int)<=30:=oo;have HV:Hid (Jd s = !(allB (fun c=>jh c||c==45) s)):=by show _=_;rw[HN.o,decide_eq_true hz,decide_eq_true h30];simp
   clear h30 hz HN;generalize allB (fun c=>jh c||c==45) s=z at *;go_in;go_wp2_with fail;refine HO.o.mono ?_;rintro e wq ⟨rfl,hwq⟩;rw[hwq];go_wp2_with fail;go_ret;exact⟨aC (by rw[HV.o,decide_eq_false oo];rfl),rfl⟩
  .have h1:(30:Int)<(s.size:Int):=oo;have HV:Hid (Jd s=true):=by show _=_;rw[HN.o,decide_eq_false h30];simp
   clear h30 hz HN HO;go_in;go_wp2_with fail;go_ret;exact⟨aC HV.o.symm,rfl⟩
def wP(s:BY):Bool:=pk s 0==45
theorem acZ(s:BY):Lib.hasPrefix s.data.toList [45]=wP s:=by have h:=xI s [45] 0;rw[List.drop_zero]at h;unfold Lib.hasPrefix;rw[h];show(pk s 0==45&&true)=_;rw[Bool.and_true];rfl
theorem Ew(s:BY)(w:WD):Calls prog 108 #[.string s] w fun e w'=>e=.returned (.bool (wP s))/\w'=w:=by have HV:Hid (Lib.hasPrefix s.data.toList [45]=wP s):=acZ s;go_in;go_wp2_with fail;refine pmb (Tryz.strings_HasPrefix s ⟨#[45]⟩ w) fun wq hwq=>?_;rw[hwq];go_wp2_with fail;go_ret;exact⟨aC HV.o,rfl⟩
def AU(zs:List BY):Bool:=decide (zs.length<=20)&&zs.all gK
theorem ags(zs:List BY):(!zs.any Jd)=zs.all gK:=by
 rw[List.not_any_eq_all_not];congr 1
 funext s
 unfold Jd;exact Bool.not_not _
theorem AV(S:Nat->Prop)(zs:List BY)(v:Av)(w:WD)(h:SG eX 1 S w v zs):Calls prog 107 #[v] w fun e w'=>e=.returned (.bool (AU zs))/\w'=w:=by
 have hl:=h.len;have HC:Hid (Calls prog 59 #[v,.func (.func 172) #[] #[]] w fun e w'=>e=.returned (.bool (zs.any Jd))/\w'=w):=rM zs v 172 Jd S w h (fun _ _=>rfl) (fun x w hx=>Wj x w hx)
 obtain⟨a,cap,rfl⟩:=h.form;clear h;by_cases h20:zs.length<=20
 .have h1:(zs.length:Int)<=20:=oo;have HV:Hid (AU zs = !zs.any Jd):=by show _=_;unfold AU;rw[decide_eq_true h20,ags];rfl
  clear h20;generalize zs.any Jd=z at *;go_in;go_wp2_with fail;refine HC.o.mono ?_;rintro e wq ⟨rfl,hwq⟩;rw[hwq];go_wp2_with fail;go_ret;exact⟨aC HV.o.symm,rfl⟩
 .have h1:(20:Int)<(zs.length:Int):=oo;have HV:Hid (AU zs=false):=by show _=_;unfold AU;rw[decide_eq_false h20];rfl
  clear h20 HC;go_in;go_wp2_with fail;go_ret;exact⟨aC HV.o.symm,rfl⟩
end
section
attribute [local go_sem] bI bJ aX aY
theorem agt(zs:List BY):zs.all (fun s=>gK s&&!(pk s 0==45))=(zs.all gK&&!zs.any wP):=by
 induction zs with
 |nil=>rfl
 |cons z r ih=>rw[List.all_cons,List.all_cons,List.any_cons,ih];show((gK z&&!wP z)&&_)=_;cases gK z<;>cases wP z<;>cases r.all gK<;>rfl
theorem YM(p:aF):qp p=((allB jh p.root&&decide (p.root.size<=12))&&AU p.props&&!p.props.any wP&&AU p.aJ&&AU p.ats):=by unfold qp AU;rw[agt];show(allB jh p.root&&decide (p.root.size<=12)&&(decide (p.props.length<=20)&&(p.props.all gK&&!p.props.any wP))&&_&&_)=_;cases allB jh p.root&&decide (p.root.size<=12)<;>cases decide (p.props.length<=20)<;>cases p.props.all gK<;>cases p.props.any wP<;>rfl
def Qa(w:WD)(b:Nat)(x0 x1 x2 x3 x4 x5:Av):Prop:=w.heap[b]?=some (.cells #[x0,x1,x2,x3,x4,x5] 41 (0,0))
theorem Qa.cs{w:WD}{b:Nat}{x0 x1 x2 x3 x4 x5:Av}(h:Qa w b x0 x1 x2 x3 x4 x5):w.cell? ⟨b,0,none⟩=some x0/\w.cell? ⟨b,1,none⟩=some x1/\w.cell? ⟨b,2,none⟩=some x2/\w.cell? ⟨b,3,none⟩=some x3/\w.cell? ⟨b,4,none⟩=some x4/\w.cell? ⟨b,5,none⟩=some x5:=by have h':w.heap[b]?=_:=h;refine⟨?_,?_,?_,?_,?_,?_⟩<;>(unfold World.cell?;rw[h'];rfl)
theorem Qa.lt{w:WD}{b:Nat}{x0 x1 x2 x3 x4 x5:Av}(h:Qa w b x0 x1 x2 x3 x4 x5):b<w.heap.size:=(Ax h)
theorem Qa.new(w:WD)(x0 x1 x2 x3 x4 x5:Av):Qa (w.alloc (.cells #[x0,x1,x2,x3,x4,x5] 41)) w.heap.size x0 x1 x2 x3 x4 x5:=heap_alloc_new w _
theorem Qa.nb(p:aF)(pa fa aa:Option Addr)(pc fc ac:Nat)(w:WD):Hid (Below w.heap.size w (w.alloc (.cells #[.string p.root,.slice pa p.props.length pc,.slice fa p.aJ.length fc,.slice aa p.ats.length ac,.bool p.aU,.bool p.texts] 41)))/\Hid (Qa (w.alloc (.cells #[.string p.root,.slice pa p.props.length pc,.slice fa p.aJ.length fc,.slice aa p.ats.length ac,.bool p.aU,.bool p.texts] 41)) w.heap.size (.string p.root) (.slice pa p.props.length pc) (.slice fa p.aJ.length fc) (.slice aa p.ats.length ac) (.bool p.aU) (.bool p.texts)):=⟨As.alloc nl _,Qa.new _ _ _ _ _ _ _⟩
theorem Qa.below{w w':WD}{b g:Nat}{x0 x1 x2 x3 x4 x5:Av}(h:Qa w b x0 x1 x2 x3 x4 x5)(hb:Below g w w')(hg:b<g):Qa w' b x0 x1 x2 x3 x4 x5:=by show _=_;rw[hb.block b hg];exact h
theorem Wp(B:Nat)(p:aF)(pv fv av:Av)(w:WD)(h:jK B w p pv fv av)(hr:p.root.size<=4194304):
  Calls prog 66 #[dF p pv fv av] w fun e w'=>e=.returned (.bool (qp p))/\Below w.heap.size w w':=by
 obtain⟨pa,pc,rfl⟩:=h.props.form;obtain⟨fa,fc,rfl⟩:=h.aJ.form;obtain⟨aa,ac,rfl⟩:=h.ats.form;obtain⟨B0,Q0⟩:=Qa.nb p pa fa aa pc fc ac w;have HP:=hid (h.below B0.o h.lt);have HE:Hid (qp p=((allB jh p.root&&decide (p.root.size<=12))&&AU p.props&&!p.props.any wP&&AU p.aJ&&AU p.ats)):=YM p;clear h;unfold dF;go_in;go_upto_region 1 with fail
 generalize w.alloc (.cells #[.string p.root,.slice pa p.props.length pc,.slice fa p.aJ.length fc,.slice aa p.ats.length ac,.bool p.aU,.bool p.texts] 41)=w0 at *;obtain⟨q0,q1,q2,q3,q4,q5⟩:=Q0.o.cs;have H1:=acY p.root w0 hr;have H2:=AV _ p.props _ w0 HP.o.props;have H3:=rM p.props _ 108 wP _ w0 HP.o.props (fun _ _=>rfl) (fun x w _=>Ew x w);have H4:=AV _ p.aJ _ w0 HP.o.aJ;have H5:=AV _ p.ats _ w0 HP.o.ats;obtain⟨z1,Z1⟩:=Nm ((allB jh p.root&&decide (p.root.size<=12)));obtain⟨z2,Z2⟩:=Nm (AU p.props);obtain⟨z3,Z3⟩:=Nm (p.props.any wP);obtain⟨z4,Z4⟩:=Nm (AU p.aJ);obtain⟨z5,Z5⟩:=Nm (AU p.ats);rw[Z1.o]at H1;rw[Z2.o]at H2;rw[Z3.o]at H3;rw[Z4.o]at H4
 rw[Z5.o]at H5;have HE2:Hid (qp p=(z1&&z2&&!z3&&z4&&z5)):=by show _=_;rw[HE.o,Z1.o,Z2.o,Z3.o,Z4.o,Z5.o]
 have C1:=hid H1;have C2:=hid H2;have C3:=hid H3;have C4:=hid H4;have C5:=hid H5;clear H1 H2 H3 H4 H5 HE HP;go_wp2_with fail;refine C1.o.mono ?_;rintro e wq ⟨rfl,hwq⟩;rw[hwq];clear hwq;cases z1
 .have HV:Hid (qp p=false):=HE2.o;go_wp2_with fail;go_ret;exact⟨aC HV.o.symm,B0.o⟩
 go_wp2_with fail;refine C2.o.mono ?_;rintro e wq ⟨rfl,hwq⟩;rw[hwq];clear hwq;cases z2
 .have HV:Hid (qp p=false):=HE2.o;go_wp2_with fail;go_ret;exact⟨aC HV.o.symm,B0.o⟩
 go_wp2_with fail;refine C3.o.mono ?_;rintro e wq ⟨rfl,hwq⟩;rw[hwq];clear hwq;cases z3
 .go_wp2_with fail;refine C4.o.mono ?_;rintro e wq ⟨rfl,hwq⟩;rw[hwq];clear hwq;cases z4
  .have HV:Hid (qp p=false):=HE2.o;go_wp2_with fail;go_ret;exact⟨aC HV.o.symm,B0.o⟩
  go_wp2_with fail;refine C5.o.mono ?_;rintro e wq ⟨rfl,hwq⟩;rw[hwq];clear hwq;have HV:Hid (qp p=z5):=HE2.o;go_wp2_with fail;go_ret;exact⟨aC HV.o.symm,B0.o⟩
 .have HV:Hid (qp p=false):=HE2.o;go_wp2_with fail;go_ret;exact⟨aC HV.o.symm,B0.o⟩
theorem Q6.fz{w:WD}{b:Nat}{x0 x1 x2 x3 x4 x5:Av}(h:Q6 w b x0 x1 x2 x3 x4 x5)(o:Nat):w.frozen? ⟨b,o,none⟩=false:=by have h':w.heap[b]?=_:=h;unfold World.frozen?;rw[h'];simp
theorem agu(B:Nat)(p:aF)(pv fv av:Av)(w:WD)(h:jK B w p pv fv av)(hr:p.root.size<=4194304):
  Calls prog 39 #[dF p pv fv av] w fun e w'=>(∃u,e=.returned (.tuple #[u,.bool (qp p)])/\(qp p=true->u=dF p pv fv av)/\(qp p=false->u=.agg #[.string ⟨#[]⟩,.slice none 0 0,.slice none 0 0,.slice none 0 0,.bool false,.bool false]))/\Below w.heap.size w w':=by
 obtain⟨pa,pc,rfl⟩:=h.props.form;obtain⟨fa,fc,rfl⟩:=h.aJ.form;obtain⟨aa,ac,rfl⟩:=h.ats.form;have hB:=h.lt;obtain⟨B0,Q0⟩:=Qa.nb p pa fa aa pc fc ac w;have wX:=hid (h.below B0.o hB);have B1:Hid (Below w.heap.size w ((w.alloc (.cells #[.string p.root,.slice pa p.props.length pc,.slice fa p.aJ.length fc,.slice aa p.ats.length ac,.bool p.aU,.bool p.texts] 41)).alloc (.cells #[.string ⟨#[]⟩,.slice none 0 0,.slice none 0 0,.slice none 0 0,.bool false,.bool false] 82))):=B0.o.alloc Aa _
 have X1:Hid (Below (w.alloc (.cells #[.string p.root,.slice pa p.props.length pc,.slice fa p.aJ.length fc,.slice aa p.ats.length ac,.bool p.aU,.bool p.texts] 41)).heap.size (w.alloc (.cells #[.string p.root,.slice pa p.props.length pc,.slice fa p.aJ.length fc,.slice aa p.ats.length ac,.bool p.aU,.bool p.texts] 41)) ((w.alloc (.cells #[.string p.root,.slice pa p.props.length pc,.slice fa p.aJ.length fc,.slice aa p.ats.length ac,.bool p.aU,.bool p.texts] 41)).alloc (.cells #[.string ⟨#[]⟩,.slice none 0 0,.slice none 0 0,.slice none 0 0,.bool false,.bool false] 82))):=As.alloc nl _
 have Q1:=hid (Q0.o.below X1.o Q0.o.lt);have HP1:=hid (wX.o.below X1.o wX.o.lt)
 have R1:Hid (Q6 ((w.alloc (.cells #[.string p.root,.slice pa p.props.length pc,.slice fa p.aJ.length fc,.slice aa p.ats.length ac,.bool p.aU,.bool p.texts] 41)).alloc (.cells #[.string ⟨#[]⟩,.slice none 0 0,.slice none 0 0,.slice none 0 0,.bool false,.bool false] 82)) (w.heap.size+1) (.string ⟨#[]⟩) (.slice none 0 0) (.slice none 0 0) (.slice none 0 0) (.bool false) (.bool false)):=by have:=Q6.new (w.alloc (.cells #[.string p.root,.slice pa p.props.length pc,.slice fa p.aJ.length fc,.slice aa p.ats.length ac,.bool p.aU,.bool p.texts] 41)) (.string ⟨#[]⟩) (.slice none 0 0) (.slice none 0 0) (.slice none 0 0) (.bool false) (.bool false);rw[show(w.alloc (.cells #[.string p.root,.slice pa p.props.length pc,.slice fa p.aJ.length fc,.slice aa p.ats.length ac,.bool p.aU,.bool p.texts] 41)).heap.size=w.heap.size+1 by simp]at this;exact this
 clear h Q0 wX X1;unfold dF;go_in;go_upto_region 1 with fail
 generalize(w.alloc (.cells #[.string p.root,.slice pa p.props.length pc,.slice fa p.aJ.length fc,.slice aa p.ats.length ac,.bool p.aU,.bool p.texts] 41)).alloc (.cells #[.string ⟨#[]⟩,.slice none 0 0,.slice none 0 0,.slice none 0 0,.bool false,.bool false] 82)=w1 at *;obtain⟨q0,q1,q2,q3,q4,q5⟩:=Q1.o.cs;have hs1:=B1.o.size;have HC:=Wp B p _ _ _ w1 HP1.o hr;unfold dF at HC;obtain⟨z,Hz⟩:=Nm (qp p);rw[Hz.o]at HC;have HC':Hid (Calls prog 66 #[.agg #[.string p.root,.slice pa p.props.length pc,.slice fa p.aJ.length fc,.slice aa p.ats.length ac,.bool p.aU,.bool p.texts]] w1 fun e w'=>e=.returned (.bool z)/\Below w1.heap.size w1 w'):=HC;clear HC HP1;go_wp2_with fail;refine HC'.o.mono ?_;rintro e w2 ⟨rfl,hb2⟩;have B2:=hid (B1.o.trans (hb2.mono hs1))
 have R2:=hid (R1.o.below hb2 R1.o.lt);have Q2:=hid (Q1.o.below hb2 Q1.o.lt);clear hb2 HC' q0 q1 q2 q3 q4 q5 Q1 R1;obtain⟨q0,q1,q2,q3,q4,q5⟩:=Q2.o.cs;obtain⟨r0,r1,r2,r3,r4,r5⟩:=R2.o.cs;have z0:=R2.o.fz 0;have z1:=R2.o.fz 1;have z2:=R2.o.fz 2;have z3:=R2.o.fz 3;have z4:=R2.o.fz 4;have z5:=R2.o.fz 5;cases z
 .go_wp2_with fail;refine bodyPost_ret (v:=.tuple #[.agg #[.string ⟨#[]⟩,.slice none 0 0,.slice none 0 0,.slice none 0 0,.bool false,.bool false],.bool false]) (by simp[results,Tryz.results39,go_sem,r0,r1,r2,r3,r4,r5]) rfl ?_;refine⟨⟨_,by rw[Hz.o],(by rw[Hz.o];intro h;cases h),fun _=>rfl⟩,?_⟩;exact Je B2.o oo _ _ _ _ _ _
 .go_wp2_with fail;refine bodyPost_ret (v:=.tuple #[.agg #[.string p.root,.slice pa p.props.length pc,.slice fa p.aJ.length fc,.slice aa p.ats.length ac,.bool p.aU,.bool p.texts],.bool true]) (by simp[results,Tryz.results39,go_sem,r0,r1,r2,r3,r4,r5]) rfl ?_;refine⟨⟨_,by rw[Hz.o],fun _=>rfl,by rw[Hz.o];intro h;cases h⟩,?_⟩;exact Je B2.o oo _ _ _ _ _ _
end
def yg(h b:BY):BY:=if b=aA then aA else h++(b1 123++(b++b1 125))
theorem RU(h b:BY)(w:WD)(hs:h.size+b.size<=1099511627770):Calls prog 118 #[.string h,.string b] w fun e w'=>e=.returned (.string (yg h b))/\Below w.heap.size w w':=by
 by_cases he:b.toList=[]
 .have hn:b=aA:=by
   have:=ay b [];rw[he]at this;exact of_decide_eq_true this.symm
  have HV:Hid (yg h b=aA):=by show _=_;unfold yg;rw[if_pos hn]
  clear hn;go_in;go_wp2_with fail;go_ret;exact⟨mg HV.o.symm,As⟩
 .have hn:¬b=aA:=fun e=>he (by rw[e,fC];rfl);have hib:(b.toList==[])=false:=by cases hq:b.toList with|nil=>exact absurd hq he|cons _ _=>rfl
  have HV:Hid (aG [h,⟨#[123]⟩,b,⟨#[125]⟩]=yg h b):=by show _=_;unfold yg;rw[if_neg hn];simp[aG,b1]
  clear hn;go_in;go_wp2_with fail;refine pmb (dQ [h,⟨#[123]⟩,b,⟨#[125]⟩] w.heap.size _ _ (row4 w h ⟨#[123]⟩ b ⟨#[125]⟩) Aa (by show h.size+(1+(b.size+(1+0)))<=_;omega)) fun w5 hb5=>?_;have B5:Hid (Below w.heap.size w w5):=(bf w _).trans (hb5.mono Aa);clear hb5;go_wp2_with fail;go_ret;exact⟨mg HV.o,B5.o⟩
theorem aaA(d:Dec):(jW d).size<=4*d.prop.size+dL d.val+20:=by
 have h1:=fQ d.prop;have h2:=jP d.val;have e:(b1 58).size=1:=rfl;have e2:(if d.imp=true then ZX else aA).size<=10:=by split<;>decide
 unfold jW;rw[ByteArray.size_append,ByteArray.size_append,ByteArray.size_append,e];omega
theorem LK(B:Nat)(d:Dec)(vv:Av)(w:WD)(h:Sl (fun b=>b<B) w vv d.val)(hB:B<=w.heap.size)(hp:d.prop.size<=4000000)(hz:dL d.val<=549755813888):
  Calls prog 194 #[.agg #[.string d.prop,vv,.bool d.imp]] w fun e w'=>e=.returned (.string (jW d))/\Below w.heap.size w w':=by
 obtain⟨va,vc,rfl⟩:=h.form;have B2:Hid (Below w.heap.size w (w.alloc (.cells #[.string d.prop,.slice va d.val.length vc,.bool d.imp] 181)).drew):=xJ _ _;have A2:Hid (Q3 181 (w.alloc (.cells #[.string d.prop,.slice va d.val.length vc,.bool d.imp] 181)).drew w.heap.size (.string d.prop) (.slice va d.val.length vc) (.bool d.imp)):=Q3.new _ _ _ _ _;have S2:Hid (Sl (fun b=>b<B) (w.alloc (.cells #[.string d.prop,.slice va d.val.length vc,.bool d.imp] 181)).drew (.slice va d.val.length vc) d.val):=h.below B2.o hB;clear h;obtain⟨nm,Aw⟩:=Nm (dP d.prop);obtain⟨tx,Gv⟩:=Nm (Sp.written d.val);have hs1:nm.size<=4*d.prop.size:=by rw[<-Aw.o];exact fQ _
 have hs3:tx.size<=dL d.val:=by rw[<-Gv.o];exact jP _
 cases hi:d.imp;focus
  rw[hi]at B2 A2 S2;have HV:Hid (aG [nm,⟨#[58]⟩,tx,⟨#[]⟩]=jW d):=by show _=_;unfold jW;rw[Aw.o,Gv.o,hi];simp[aG,b1,aA]
  go_in;go_wp2_with fail;refine wp_region_any An ?_;change wpAny _ _ _ _ _ _ _ (World.drew _);generalize(w.alloc (.cells #[.string d.prop,.slice va d.val.length vc,.bool false] 181)).drew=w2 at *;have hsz2:=B2.o.size;refine wpAny_of_held (S:=fun wx=>Q3 181 wx w.heap.size (.string d.prop) (.slice va d.val.length vc) (.bool false)) _ _ _ _ ?_;refine dH 0 rfl A2.o (by intro w hSw;obtain⟨a0,a1,a2⟩:=hSw.cs;exact gs) ?_;refine dH 1 rfl A2.o (by intro w hSw;obtain⟨a0,a1,a2⟩:=hSw.cs;exact gs) ?_;refine dH 3 rfl A2.o (by intro w hSw;obtain⟨a0,a1,a2⟩:=hSw.cs;exact gs) ?_;refine dH 4 rfl A2.o (by intro w hSw;obtain⟨a0,a1,a2⟩:=hSw.cs;exact gs) ?_
  refine dH 6 rfl A2.o (by intro w hSw;obtain⟨a0,a1,a2⟩:=hSw.cs;exact gs) ?_;refine iW 2 fun K hK=>?_;go_simp;refine(oW d.prop _ hp).mono ?_;rw[Aw.o];rintro e w3 ⟨rfl,hb3⟩;have B3:=hid (B2.o.trans (hb3.mono hsz2));have A4:=hid (A2.o.below hb3);have S3:=hid (S2.o.below hb3 oo);have hsz3:=B3.o.size;clear hb3 S2;refine hK.o _ _ A4.o (fun _=>?_);clear hK K;refine iW 5 fun K hK=>?_;go_simp;refine(uq d.val B _ w3 S3.o oo hz).mono ?_;rw[Gv.o];rintro e w4 ⟨rfl,hb4⟩;have B4:=hid (B3.o.trans (hb4.mono hsz3));have A5:=hid (A4.o.below hb4);have ajq:=B4.o.size;clear hb4
  refine hK.o _ _ A5.o (fun _=>?_);clear hK K;refine iW 7 fun K hK=>?_;go_simp;refine hK.o _ _ (A5.o.below (bf _ _)) (fun _=>?_);clear hK K;refine iW 8 fun K hK=>?_;go_simp;refine pmb (dQ [nm,⟨#[58]⟩,tx,⟨#[]⟩] w4.heap.size _ _ (row4 w4 nm ⟨#[58]⟩ tx ⟨#[]⟩) Aa (by show nm.size+(1+(tx.size+(0+0)))<=_;omega)) fun w5 hb5=>?_;have B5:Hid (Below w.heap.size w w5):=(B4.o.alloc ajq _).trans (hb5.mono Al);have A6:Hid (Q3 181 w5 w.heap.size (.string d.prop) (.slice va d.val.length vc) (.bool false)):=(A5.o.below (bf _ _)).below hb5
 rotate_left;focus
  rw[hi]at B2 A2 S2;have HV:Hid (aG [nm,⟨#[58]⟩,tx,⟨#[33,105,109,112,111,114,116,97,110,116]⟩]=jW d):=by show _=_;unfold jW;rw[Aw.o,Gv.o,hi];simp[aG,b1,ZX]
  go_in;go_wp2_with fail;refine wp_region_any An ?_;change wpAny _ _ _ _ _ _ _ (World.drew _);generalize(w.alloc (.cells #[.string d.prop,.slice va d.val.length vc,.bool true] 181)).drew=w2 at *;have hsz2:=B2.o.size;refine wpAny_of_held (S:=fun wx=>Q3 181 wx w.heap.size (.string d.prop) (.slice va d.val.length vc) (.bool true)) _ _ _ _ ?_;refine dH 0 rfl A2.o (by intro w hSw;obtain⟨a0,a1,a2⟩:=hSw.cs;exact gs) ?_;refine dH 1 rfl A2.o (by intro w hSw;obtain⟨a0,a1,a2⟩:=hSw.cs;exact gs) ?_;refine dH 3 rfl A2.o (by intro w hSw;obtain⟨a0,a1,a2⟩:=hSw.cs;exact gs) ?_;refine dH 4 rfl A2.o (by intro w hSw;obtain⟨a0,a1,a2⟩:=hSw.cs;exact gs) ?_
  refine dH 6 rfl A2.o (by intro w hSw;obtain⟨a0,a1,a2⟩:=hSw.cs;exact gs) ?_;refine iW 2 fun K hK=>?_;go_simp;refine(oW d.prop _ hp).mono ?_;rw[Aw.o];rintro e w3 ⟨rfl,hb3⟩;have B3:=hid (B2.o.trans (hb3.mono hsz2));have A4:=hid (A2.o.below hb3);have S3:=hid (S2.o.below hb3 oo);have hsz3:=B3.o.size;clear hb3 S2;refine hK.o _ _ A4.o (fun _=>?_);clear hK K;refine iW 5 fun K hK=>?_;go_simp;refine(uq d.val B _ w3 S3.o oo hz).mono ?_;rw[Gv.o];rintro e w4 ⟨rfl,hb4⟩;have B4:=hid (B3.o.trans (hb4.mono hsz3));have A5:=hid (A4.o.below hb4);have ajq:=B4.o.size;clear hb4
  refine hK.o _ _ A5.o (fun _=>?_);clear hK K;refine iW 7 fun K hK=>?_;go_simp;refine hK.o _ _ (A5.o.below (bf _ _)) (fun _=>?_);clear hK K;refine iW 8 fun K hK=>?_;go_simp;refine pmb (dQ [nm,⟨#[58]⟩,tx,⟨#[33,105,109,112,111,114,116,97,110,116]⟩] w4.heap.size _ _ (row4 w4 nm ⟨#[58]⟩ tx _) Aa (by show nm.size+(1+(tx.size+(10+0)))<=_;omega)) fun w5 hb5=>?_;have B5:Hid (Below w.heap.size w w5):=(B4.o.alloc ajq _).trans (hb5.mono Al);have A6:Hid (Q3 181 w5 w.heap.size (.string d.prop) (.slice va d.val.length vc) (.bool true)):=(A5.o.below (bf _ _)).below hb5
 rotate_left;all_goals
  clear hb5;refine hK.o _ _ A6.o (fun _=>?_);clear hK K;refine iW 9 fun K hK=>?_;go_simp;refine hK.o _ _ (A6.o) (fun _=>?_);clear hK K;refine wpAnyH_done An ?_ _;go_wp2_with fail;go_ret;exact⟨mg HV.o,B5.o⟩
theorem Jf(h:List Nd):(qE h).size<=dL h+1:=by
 unfold qE;split
 .show 0<=_;omega
 .have:=jP h;rw[ByteArray.size_append];show 1+_<=_;omega
theorem ac0(B:Nat)(nm:BY)(hd:List Nd)(v:Av)(w:WD)(h:Sl (fun b=>b<B) w v hd)(hB:B<=w.heap.size)(hn:nm.size<=4000000)(hz:dL hd<=549755813888):
  Calls prog 119 #[.string nm,v] w fun e w'=>e=.returned (.string (b1 64++(dP nm++qE hd)))/\Below w.heap.size w w':=by
 have hl:=h.len;have HS:=hid h;obtain⟨va,vc,rfl⟩:=h.form;clear h;obtain⟨o,Ho⟩:=Nm (dP nm);have hs1:o.size<=4*nm.size:=by rw[<-Ho.o];exact fQ _
 rw[Ho.o];obtain⟨q,Hq⟩:=Nm (aG [⟨#[64]⟩,o]);have HQ2:Hid (q=b1 64++o):=by show _=_;rw[<-Hq.o];simp[aG,b1]
 have hsq:q.size<=4*nm.size+1:=by rw[HQ2.o,ByteArray.size_append];show 1+o.size<=_;omega
 go_in;go_wp2_with fail;refine(oW nm _ hn).mono ?_;rw[Ho.o];rintro e w1 ⟨rfl,hb1⟩;have B1:=hid hb1;have hw1:=hb1.size;clear hb1;go_wp2_with fail;refine(dQ [⟨#[64]⟩,o] w1.heap.size _ _ (rw2 w1 ⟨#[64]⟩ o) Aa (by show 1+(o.size+0)<=_;omega)).mono ?_;rw[Hq.o];rintro e w2 ⟨rfl,hb2⟩;have B2:Hid (Below w.heap.size w w2):=(B1.o.alloc hw1 _).trans (hb2.mono Al);have hw2:=B2.o.size;clear hb2;by_cases hz0:hd.length=0
 .obtain rfl:hd=[]:=List.eq_nil_of_length_eq_zero hz0;have HV:Hid (q=b1 64++(o++qE [])):=by show _=_;rw[HQ2.o];show _=b1 64++(o++aA);rw[mO]
  clear hz0;go_wp2_with fail;go_ret;exact⟨mg HV.o,B2.o⟩
 .have hne:(((hd.length:Nat):Int)==0)=false:=by rw[beq_eq_false_iff_ne];omega
  obtain⟨tx,Gv⟩:=Nm (Sp.written hd);have hs3:tx.size<=dL hd:=by rw[<-Gv.o];exact jP _
  have HV:Hid (aG [q,⟨#[32]⟩,tx]=b1 64++(o++qE hd)):=by show _=_;unfold qE;rw[if_neg (by rintro rfl;simp at hz0),Gv.o,HQ2.o];simp[aG,b1,ByteArray.append_assoc]
  clear hz0;go_wp2_with fail;refine(uq hd B _ w2 (HS.o.below B2.o hB) oo hz).mono ?_;rw[Gv.o];rintro e w4 ⟨rfl,hb4⟩;have B4:=hid (B2.o.trans (hb4.mono hw2));have hw4:=B4.o.size;clear hb4;go_wp2_with fail;refine pmb (dQ [q,⟨#[32]⟩,tx] w4.heap.size _ _ (row3 w4 q ⟨#[32]⟩ tx) Aa (by show q.size+(1+(tx.size+0))<=_;omega)) fun w5 hb5=>?_;have B5:Hid (Below w.heap.size w w5):=(B4.o.alloc hw4 _).trans (hb5.mono Al);clear hb5;go_wp2_with fail;go_ret;exact⟨mg HV.o,B5.o⟩
theorem YN(ok:Nat->UInt8->Bool):∀(l:List UInt8) (i:Nat),(∀j (h:j<l.length),ok (i+j) l[j]=true)->BP ok i l=⟨l.toArray⟩
 |[],i,_=>rfl
 |c::r,i,h=>by
  have h0:=h 0 Aa;simp at h0;unfold BP;rw[if_pos h0,YN ok r (i+1) (fun j hj=>by have:=h (j+1) (by simpa using hj);simpa[Nat.add_assoc,Nat.add_comm 1 j]using this)];apply ByteArray.ext
  rw[ByteArray.data_append];simp[b1]
theorem aaB{s:BY}(h:allB jh s=true):dP s=s:=by
 unfold dP;rw[YN];intro j hj;have hc:jh s.data.toList[j]=true:=by unfold allB at h;rw[List.all_eq_true]at h;exact h _ (List.getElem_mem _)
 generalize s.data.toList[j]=c at *;unfold jh at hc;simp only[Bool.and_eq_true,decide_eq_true_eq]at hc;unfold dZ oV oU;rw[if_neg (by simp;omega),if_neg (by rintro rfl;simp at hc)];simp;omega
def jc(root:BY):BY:=if root=aA then aA else b1 46++(root++b1 32)
theorem Jg[bV](a:BY):∀(r:bY) (c:List Step),jX (b1 44) ((c::r).map (fun x=>a++dW x))=a++(dW c++qC a r)
 |[],c=>by show a++dW c=a++(dW c++qC a []);unfold qC;rw[mO]
 |d::q,c=>by
  have ih:=Jg a q d;show(a++dW c)++(b1 44++jX (b1 44) ((d::q).map (fun x=>a++dW x)))=_;rw[ih];conv=>rhs;unfold qC
  simp only[ByteArray.append_assoc]
theorem AX[bV](a:BY)(ss:bY):jX (b1 44) (ss.map (fun x=>a++dW x))=jV a ss:=by
 cases ss with
 |nil=>rfl
 |cons c r=>rw[Jg];unfold jV;rfl
theorem zf[bV](hd:jm)(a:BY):∀(ss:bY),CO ss->total (ss.map (fun x=>a++dW x))+ss.length<=zL ss+ss.length*a.size
 |[],_=>by simp[total]
 |c::r,hq=>by simp only[CO]at hq;have:=zf hd a r hq.2;have:=qL hd c hq.1;unfold zL;simp only[List.map_cons,total,List.length_cons,ByteArray.size_append,Nat.add_mul];omega
theorem RV[bV](f B:Nat)(root:BY)(ss:bY)(v:Av)(w:WD)(h:SG (AA (aQ f)) 1 (fun b=>b<B) w v ss)(hB:B<=w.heap.size)(hI:jD w)(hq:CO ss)(hz:zL ss<=274877906944)(hd:jm)(hr:allB jh root=true)(anr:root.size<=12):
  Calls prog 122 #[.string root,v] w fun e w'=>e=.returned (.string (jV (jc root) ss))/\Below w.heap.size w w':=by
 have hl:=h.len;have HS:=hid h;have HII:=hid hI;have HQ:=hid hq;have hF:Hid (Fair (fO (aQ f))):=fO.fair (aQ.fair f);obtain⟨a,cap,rfl⟩:=h.form;obtain⟨ah,Hah⟩:=Nm (jc root);have amK:ah.size<=14:=by
  rw[<-Hah.o];unfold jc;split
  .show 0<=14;omega
  .rw[ByteArray.size_append,ByteArray.size_append];show 1+(_+1)<=14;omega
 have Lm:Hid (jX (b1 44) (ss.map (fun x=>ah++dW x))=jV ah ss):=AX ah ss;have htot:=zf hd ah ss hq;have hml:ss.length*ah.size<=2097152*14:=Nat.mul_le_mul hl amK;have hnm:dP root=root:=aaB hr;rw[Hah.o];clear h hI hq hr;obtain⟨iS,wK⟩:=info_str;have HI:=hid wK;clear wK;go_in;go_upto_if 10 with fail;go_cut [5] (fun s5 wx=>s5=.string ah/\Below w.heap.size w wx);case first=>
  by_cases he:root.toList=[]
  .have hn:root=aA:=by
    have:=ay root [];rw[he]at this;exact of_decide_eq_true this.symm
   have HA:Hid (ah=⟨#[]⟩):=by show _=_;rw[<-Hah.o];unfold jc;rw[if_pos hn];rfl
   clear hn;have hie:root.toList.isEmpty=true:=by rw[he];rfl
   rw[hie,Bool.not_true];go_wp2_with fail;go_meet
   exact⟨by rw[HA.o],As⟩
  .have hn:¬root=aA:=fun e=>he (by rw[e,fC];rfl);have hie:root.toList.isEmpty=false:=by cases hq:root.toList with|nil=>exact absurd hq he|cons _ _=>rfl
   have HA:Hid (aG [⟨#[46]⟩,root,⟨#[32]⟩]=ah):=by show _=_;rw[<-Hah.o];unfold jc;rw[if_neg hn];simp[aG,b1]
   clear hn;have HNC:=oW root w oo;rw[hnm]at HNC;have HN:=hid HNC;clear HNC hnm;rw[hie,Bool.not_false];go_wp2_with fail;refine HN.o.mono ?_;rintro e w1 ⟨rfl,hb1⟩;have B1:=hid hb1;have hw1:=hb1.size;clear hb1;go_wp2_with fail;refine(dQ [⟨#[46]⟩,root,⟨#[32]⟩] w1.heap.size _ _ (row3 w1 ⟨#[46]⟩ root ⟨#[32]⟩) Aa (by show 1+(root.size+(1+0))<=_;omega)).mono ?_;rw[HA.o];rintro e w2 ⟨rfl,hb2⟩;have B2:Hid (Below w.heap.size w w2):=(B1.o.alloc hw1 _).trans (hb2.mono Al);clear hb2;go_wp2_with fail;go_meet
   exact⟨rfl,B2.o⟩
 case rest=>
  obtain⟨rfl,hbc⟩:=hcut;have BC:=hid hbc;clear hbc hnm;go_wp2_with fail;go_loopg[6,17] ss.length (fun gg v6 v17 wr=>∃(u:Av) (i:Nat),u=v6/\v17=.int .i64 (i:Int)/\i+gg=ss.length/\Aside (wr.ownsRow w.heap.size 9 1 u i (((ss.take i).map (fun x=>ah++dW x)).map Value.string)/\Below w.heap.size w wr));case atStart=>exact⟨_,0,rfl,rfl,oo,World.ownsRow_nil _ _ _ _,BC.o⟩
  case round=>
   obtain⟨u,i,rfl,rfl,hi,hA⟩:=hrel;have O1:=hid hA.o.1;have B1:=hid hA.o.2;clear hA;have hsr:=B1.o.size;by_cases hlt:i<ss.length
   .have h1:(i:Int)<(ss.length:Int):=oo;obtain⟨g,o,rfl,hL,hcap⟩:=HS.o.here (by rintro rfl;simp at hlt);have hgB:g<B:=(hL.at ss g o i hlt).1;obtain⟨cv,d0,hcv⟩:=hL.cpx (i:=i) hlt;rw[<-B1.o.cell (p:=⟨g,_,none⟩) (show g<w.heap.size by omega)]at d0;have HT:Hid (ss.take (i+1)=ss.take i++[ss[i]]):=List.take_succ_eq_append_getElem hlt;have hqc:=VG ss i HQ.o hlt;have hzc:=VR ss i hlt;obtain⟨cx,hcx⟩:∃c,c=ss[i]:=⟨_,rfl⟩;rw[<-hcx]at hcv HT hqc hzc;obtain⟨ca,cc,rfl⟩:=hcv.form;have hxs:=qL hd cx hqc;have HW:Hid (Calls prog 191 #[.slice ca cx.length cc] wr fun e w'=>e=.returned (.string (dW cx))/\Below wr.heap.size wr w'):=
     ajc f B cx _ wr (hcv.below hF.o B1.o hB) oo (HII.o.below B1.o nl) hqc oo hd
    clear hL hcx hcv hqc;go_wp2_with fail;refine HW.o.mono ?_;obtain⟨x,Hx⟩:=Nm (dW cx);rw[Hx.o]at hxs;rw[Hx.o];rintro e w2 ⟨rfl,hb2⟩;have B2:=hid (B1.o.trans (hb2.mono hsr));have O2:Hid (w2.ownsRow w.heap.size 9 1 u i (((ss.take i).map (fun x=>ah++dW x)).map Value.string)):=aP O1.o fun r hr=>hb2.block r (O1.o.lt r hr).2;have hs2:=B2.o.size;clear hb2 HW d0;go_wp2_with fail;refine(dQ [ah,x] w2.heap.size _ _ (rw2 w2 ah x) Aa (by show ah.size+(x.size+0)<=_;omega)).mono ?_;obtain⟨y,Hy⟩:=Nm (aG [ah,x]);have HY:Hid (y=ah++x):=by show _=_;rw[<-Hy.o];simp[aG]
    rw[Hy.o];rintro e w3 ⟨rfl,hb3⟩;have X3:Hid (Below w2.heap.size w2 w3):=(bf w2 _).trans (hb3.mono Aa);have B3:=hid (B2.o.trans (X3.o.mono hs2));have O3:Hid (w3.ownsRow w.heap.size 9 1 u i (((ss.take i).map (fun x=>ah++dW x)).map Value.string)):=aP O2.o fun r hr=>X3.o.block r (O2.o.lt r hr).2;have hs3:=B3.o.size;clear hb3;obtain⟨zs,Hzs⟩:=Nm ((ss.take i).map (fun x=>ah++dW x));rw[Hzs.o]at O3;have hzl:zs.length=i:=by rw[<-Hzs.o,List.length_map,List.length_take];omega
    clear O1 O2;go_wp2_with(at_builtin;go_must(refine wpList_append_own _ rfl _ _ 26 rfl w.heap.size 9 iS (.string ⟨#[]⟩) 1 16 Tryz.underlying26 HI.o.1 HI.o.2.1 HI.o.2.2.1 HI.o.2.2.2 rfl oo u i (zs.map Value.string) rfl (O3.o.alloc _) ⟨w3.heap.size,0,none⟩ 1 1 [.string y] rfl rfl (cell_one_new _ _ _) (aT _) Ao oo Al ?_));intro v4 w4 hown4 dS _;have O4:Hid (w4.ownsRow w.heap.size 9 1 v4 (i+1) (((ss.take (i+1)).map (fun x=>ah++dW x)).map Value.string)):=by show World.ownsRow _ _ _ _ _ _ _;rw[HT.o,List.map_append,List.map_append,List.map_cons,List.map_nil,Hx.o,<-HY.o,Hzs.o];exact hown4
    have B4:Hid (Below w.heap.size w w4):=(B3.o.alloc hs3 _).grown dS Al (fun rr hr=>(O3.o.lt rr hr).1);clear hown4 dS;go_wp2_with fail;go_roundg(gk-1);case measure=>omega
    case rel=>exact⟨v4,i+1,rfl,by congr 1,oo,O4.o,B4.o⟩
   .have h1:(ss.length:Int)<=(i:Int):=oo;have hie:i=ss.length:=oo;subst hie;obtain⟨zs,Hzs⟩:=Nm (ss.map (fun x=>ah++dW x));have hzl:zs.length=ss.length:=by rw[<-Hzs.o,List.length_map]
    have O5:Hid (wr.ownsRow w.heap.size 9 1 u zs.length (zs.map Value.string)):=by have:=O1.o;rw[List.take_of_length_le nl,Hzs.o]at this;show World.ownsRow _ _ _ _ _ _ _;rw[hzl];exact this
    rw[Hzs.o]at htot Lm;go_wp2_with fail;refine(Ii (b1 44) zs w.heap.size u _ O5.o oo (by unfold acj;show _+zs.length*1<=_;omega)).mono ?_;rw[Lm.o];rintro e w5 ⟨rfl,hb5⟩;have B5:=hid (B1.o.trans (hb5.mono hsr));clear hb5;go_wp2_with fail;go_ret;exact⟨rfl,B5.o⟩
theorem jK.mono{B B':Nat}{w:WD}{p:aF}{pv fv av:Av}(h:jK B w p pv fv av)(hB:B<=B')(hw:B'<=w.heap.size):jK B' w p pv fv av:=⟨h.props.mono eX.fair hB,h.aJ.mono eX.fair hB,h.ats.mono eX.fair hB,hw⟩
def dz(d:Dec):Nat:=4*d.prop.size+dL d.val+24
def Qk:List Dec->Nat
 |[]=>0
 |d::r=>dz d+Qk r
theorem ac1:∀(l:List Dec) (i:Nat) (h:i<l.length),dz l[i]<=Qk l
 |d::r,0,_=>by unfold Qk;simp
 |d::r,i+1,h=>by have:=ac1 r i (by simpa using h);unfold Qk;simp only[List.getElem_cons_succ];omega
theorem Jh(p:aF):∀(l:List Dec),total ((l.filter (kR p)).map jW)+(l.filter (kR p)).length<=Qk l
 |[]=>by simp[total,Qk]
 |d::r=>by
  have ih:=Jh p r;have hs:=aaA d;unfold Qk dz;by_cases hk:kR p d=true
  .rw[List.filter_cons_of_pos hk];simp only[List.map_cons,total,List.length_cons];omega
  .rw[List.filter_cons_of_neg hk];omega
theorem RX{p:aF}{l:List Dec}{i:Nat}(h:i<l.length):((l.take (i+1)).filter (kR p)).map jW=((l.take i).filter (kR p)).map jW++(if kR p l[i]=true then [jW l[i]] else []):=by
 rw[List.take_succ_eq_append_getElem h,List.filter_append,List.map_append];congr 1
 by_cases hk:kR p l[i]=true
 .rw[List.filter_cons_of_pos hk,if_pos hk];rfl
 .rw[List.filter_cons_of_neg hk,if_neg hk];rfl
theorem LG.dec{S:Nat->Prop}{w:WD}{l:List Dec}{g o i:Nat}(h:LG vS 3 S w l g o)(hi:i<l.length):S g/\∃vv,w.cell? ⟨g,o+i*3,none⟩=some (.string l[i].prop)/\w.cell? ⟨g,o+i*3+1,none⟩=some vv/\w.cell? ⟨g,o+i*3+2,none⟩=some (.bool l[i].imp)/\Sl S w vv l[i].val/\l[i].prop.size<=4000000:=by obtain⟨h0,cs,⟨vv,rfl,hs,hp⟩,hc⟩:=h.at l g o i hi;refine⟨h0,vv,?_,hc 1 _ rfl,hc 2 _ rfl,hs,hp⟩;have:=hc 0 _ rfl;rwa[Nat.add_zero]at this
theorem Ji(B:Nat)(p:aF)(pv fv av:Av)(l:List Nd)(v:Av)(w:WD)(hP:jK B w p pv fv av)(h:Sl (fun b=>b<B) w v l)(hk:∀d∈decls l,OJ d.val)(hz:Qk (decls l)<=274877906944):
  Calls prog 124 #[dF p pv fv av,v] w fun e w'=>e=.returned (.string (tX p l))/\Below w.heap.size w w':=by
 have hB:=hP.lt;obtain⟨a,cap,rfl⟩:=h.form;obtain⟨pa,pc,rfl⟩:=hP.props.form;obtain⟨fa,fc,rfl⟩:=hP.aJ.form;obtain⟨aa,ac,rfl⟩:=hP.ats.form;obtain⟨ds,Hds⟩:=Nm (decls l);have HK:Hid (∀d∈ds,OJ d.val):=by rw[<-Hds.o];exact hk
 rw[Hds.o]at hz;have HBO:Hid (jX (b1 59) ((ds.filter (kR p)).map jW)=tX p l):=by show _=_;unfold tX;rw[Hds.o]
 have htot:=Jh p ds;clear hk;obtain⟨iS,wK⟩:=info_str;have HI:=hid wK;clear wK;obtain⟨B0,Q0⟩:=Q6.nb p pa fa aa pc fc ac w;have wX:=hid (hP.below B0.o hB);have HS0:=hid (h.below B0.o hB);clear hP h;unfold dF;go_in;go_upto_region 1 with fail
 have hsz0:=B0.o.size;have hlt0:=Q0.o.lt;generalize w.alloc (.cells #[.string p.root,.slice pa p.props.length pc,.slice fa p.aJ.length fc,.slice aa p.ats.length ac,.bool p.aU,.bool p.texts] 82)=w0 at *;obtain⟨rb,zV⟩:=Nm w.heap.size;rw[zV.o]at B0 Q0 hB hlt0 hsz0⊢;go_wp2_with fail;refine(IK B l _ w0 HS0.o oo).mono ?_;rw[Hds.o];rintro e w1 ⟨u1,rfl,hsg,hb1⟩;obtain⟨da,dc,rfl⟩:=hsg.form;have hdl:=hsg.len;have B1:=hid hb1;have Rn:=hid hsg;have hs1:=hb1.size;have Q1:=hid (Q0.o.below hb1 hlt0)
 have HP1:=hid ((wX.o.below hb1 oo).mono oo nl);clear hsg hb1 HS0 wX Q0;go_wp2_with fail;go_loopg[5,11] ds.length (fun gg v5 v11 wr=>∃(u:Av) (i:Nat),u=v5/\v11=.int .i64 (i:Int)/\i+gg=ds.length/\Aside (wr.ownsRow w1.heap.size 9 1 u (((ds.take i).filter (kR p)).map jW).length ((((ds.take i).filter (kR p)).map jW).map Value.string)/\Below w1.heap.size w1 wr));case atStart=>exact⟨_,0,rfl,rfl,oo,World.ownsRow_nil _ _ _ _,As⟩
 case round=>
  obtain⟨u,i,rfl,rfl,hi,hA⟩:=hrel;have O1:=hid hA.o.1;have BR:=hid hA.o.2;clear hA;have hsr:=BR.o.size;by_cases hlt:i<ds.length
  .have h1:(i:Int)<(ds.length:Int):=oo;obtain⟨g,o,rfl,hL,hcap⟩:=(Rn.o.below vS.fair BR.o nl).here (by rintro rfl;simp at hlt);obtain⟨hgB,vv,c0,c1,c2,hvv,hps⟩:=hL.dec (i:=i) hlt;have HT:Hid (((ds.take (i+1)).filter (kR p)).map jW=((ds.take i).filter (kR p)).map jW++(if kR p ds[i]=true then [jW ds[i]] else [])):=RX hlt;have hdz:=ac1 ds i hlt;have hkd:=HK.o ds[i] (List.getElem_mem _);obtain⟨d,hd⟩:∃d,d=ds[i]:=⟨_,rfl⟩;rw[<-hd]at c0 c2 hvv hps HT hdz hkd;have HVV:=hid hvv;have HKD:=hid hkd;have hvl:=hvv.len;obtain⟨va,vc,rfl⟩:=hvv.form;clear hL hd hvv hkd;have hzl:(((ds.take i).filter (kR p)).map jW).length<=i:=by rw[List.length_map];exact Nat.le_trans (List.length_filter_le _ _) (by rw[List.length_take];omega)
   obtain⟨ps,KP⟩:=Nm (((ds.take i).filter (kR p)).map jW);rw[KP.o]at O1 HT hzl;have D2:Hid (Q3 181 (wr.alloc (.cells #[.string d.prop,.slice va d.val.length vc,.bool d.imp] 181)) wr.heap.size (.string d.prop) (.slice va d.val.length vc) (.bool d.imp)):=Q3.new _ _ _ _ _;have X2:Hid (Below wr.heap.size wr (wr.alloc (.cells #[.string d.prop,.slice va d.val.length vc,.bool d.imp] 181))):=As.alloc nl _;go_upto_region 5 with fail
   generalize wr.alloc (.cells #[.string d.prop,.slice va d.val.length vc,.bool d.imp] 181)=w2 at *;obtain⟨gt,mV⟩:=Nm wr.heap.size;have D3:Hid (Q3 181 w2 gt (.string d.prop) (.slice va d.val.length vc) (.bool d.imp)):=by rw[<-mV.o];exact D2.o
   rw[mV.o];clear D2 c0 c1 c2;have B2:=hid (BR.o.trans (X2.o.mono hsr));have hs2:=X2.o.size;have O2:Hid (w2.ownsRow w1.heap.size 9 1 u ps.length (ps.map Value.string)):=aP O1.o fun r hr=>X2.o.block r (O1.o.lt r hr).2;obtain⟨a0,a1,a2⟩:=D3.o.cs;have Q2:=Q1.o.below B2.o oo;obtain⟨q0,q1,q2,q3,q4,q5⟩:=Q2.cs;clear Q2;have HDK:Hid (kR p d=((if custom d.prop=true then p.aU else p.props.contains d.prop)&&eH p d.val&&!d.val.isEmpty)):=rfl;have NO:Hid (∀wx,Below w2.heap.size w2 wx->kR p d=false->(wx.ownsRow w1.heap.size 9 1 u (((ds.take (i+1)).filter (kR p)).map jW).length ((((ds.take (i+1)).filter (kR p)).map jW).map Value.string))/\Below w1.heap.size w1 wx):=by intro wx hb hf;refine⟨?_,B2.o.trans (hb.mono oo)⟩;rw[HT.o,if_neg (by rw[hf];simp),List.append_nil];exact aP O2.o fun r hr=>hb.block r (O2.o.lt r hr).2
   by_cases hv0:d.val.length=0
   .have HF:Hid (kR p d=false):=by
     show _=_;rw[HDK.o,List.eq_nil_of_length_eq_zero hv0];simp
    have hvi:¬(0:Int)<(d.val.length:Int):=oo;have hvd:decide ((0:Int)<(d.val.length:Int))=false:=decide_eq_false hvi;clear hv0;go_wp2_with fail;go_roundg(gk-1);case measure=>omega
    case rel=>exact⟨u,i+1,rfl,by congr 1,oo,NO.o _ As HF.o⟩
   .have hvi:(0:Int)<(d.val.length:Int):=oo;have HNE:Hid (d.val.isEmpty=false):=by
     show _=_;cases hq:d.val with
     |nil=>rw[hq]at hv0;simp at hv0
     |cons _ _=>rfl
    have HPM:=F6 w1.heap.size p (.slice pa p.props.length pc) (.slice fa p.aJ.length fc) (.slice aa p.ats.length ac) w2 d.prop (HP1.o.below B2.o nl);obtain⟨z1,Hz1⟩:=Nm ((if custom d.prop=true then p.aU else p.props.contains d.prop));rw[Hz1.o]at HPM HDK;unfold dF at HPM;have alm:=hid HPM;clear HPM hv0;go_wp2_with fail;refine alm.o.mono ?_;rintro e w3 ⟨rfl,hb3⟩;have X3:=hid hb3;have D4:=hid (D3.o.below hb3);have hs3:=hb3.size;clear hb3 a0 a1 a2 q0 q1 q2 q3 q4 q5 alm;obtain⟨a0,a1,a2⟩:=D4.o.cs
    have B3:=hid (B2.o.trans (X3.o.mono oo));have Q3':=Q1.o.below B3.o oo;obtain⟨q0,q1,q2,q3,q4,q5⟩:=Q3'.cs;clear Q3';cases z1
    .have HF:Hid (kR p d=false):=HDK.o;go_wp2_with fail;go_roundg(gk-1);case measure=>omega
     case rel=>exact⟨u,i+1,rfl,by congr 1,oo,NO.o _ X3.o HF.o⟩
    .have HHM:=Dh d.val w1.heap.size p (.slice pa p.props.length pc) (.slice fa p.aJ.length fc) (.slice aa p.ats.length ac) (.slice va d.val.length vc) w3 (HP1.o.below B3.o nl) ((HVV.o.below X2.o oo).below X3.o oo) HKD.o;obtain⟨z2,Hz2⟩:=Nm (eH p d.val);rw[Hz2.o]at HHM HDK;unfold dF at HHM;have aln:=hid HHM;clear HHM;go_wp2_with fail;refine aln.o.mono ?_;rintro e w4 ⟨rfl,hb4⟩;have X4:=hid (X3.o.trans (hb4.mono hs3));have D5:=hid (D4.o.below hb4);have hs4:=X4.o.size
     clear hb4 a0 a1 a2 q0 q1 q2 q3 q4 q5 aln;obtain⟨a0,a1,a2⟩:=D5.o.cs;cases z2
     .have HF:Hid (kR p d=false):=HDK.o;go_wp2_with fail;go_roundg(gk-1);case measure=>omega
      case rel=>exact⟨u,i+1,rfl,by congr 1,oo,NO.o _ X4.o HF.o⟩
     .have HF:Hid (kR p d=true):=by show _=_;rw[HDK.o,HNE.o];rfl
      have hwz:dL d.val<=549755813888:=by unfold dz at hdz;omega
      have HDC:=LK w1.heap.size d (.slice va d.val.length vc) w4 ((HVV.o.below X2.o oo).below X4.o oo) oo hps hwz;have alo:=hid HDC;clear HDC;go_wp2_with fail;refine alo.o.mono ?_;obtain⟨y,Hy⟩:=Nm (jW d);rw[Hy.o];rintro e w5 ⟨rfl,hb5⟩;have X5:=hid (X4.o.trans (hb5.mono hs4));have B5:=hid (B2.o.trans (X5.o.mono oo));have O5:Hid (w5.ownsRow w1.heap.size 9 1 u ps.length (ps.map Value.string)):=aP O2.o fun r hr=>X5.o.block r (O2.o.lt r hr).2;have hs5:=B5.o.size;clear hb5 alo a0 a1 a2
      go_wp2_with(at_builtin;go_must(refine wpList_append_own _ rfl _ _ 26 rfl w1.heap.size 9 iS (.string ⟨#[]⟩) 1 16 Tryz.underlying26 HI.o.1 HI.o.2.1 HI.o.2.2.1 HI.o.2.2.2 rfl oo u ps.length (ps.map Value.string) rfl (O5.o.alloc _) ⟨w5.heap.size,0,none⟩ 1 1 [.string y] rfl rfl (cell_one_new _ _ _) (aT _) Ao oo Al ?_));intro v6 w6 hown6 lS _;have O6:Hid (w6.ownsRow w1.heap.size 9 1 v6 (((ds.take (i+1)).filter (kR p)).map jW).length ((((ds.take (i+1)).filter (kR p)).map jW).map Value.string)):=by show World.ownsRow _ _ _ _ _ _ _;rw[HT.o,if_pos HF.o,Hy.o];first|(rw[List.length_append,List.map_append];exact hown6)|simpa using hown6
      have B6:Hid (Below w1.heap.size w1 w6):=(B5.o.alloc hs5 _).grown lS Al (fun rr hr=>(O5.o.lt rr hr).1);clear hown6 lS;go_wp2_with fail;go_roundg(gk-1);case measure=>omega
      case rel=>exact⟨v6,i+1,rfl,by congr 1,oo,O6.o,B6.o⟩
  .have h1:(ds.length:Int)<=(i:Int):=oo;have O5:Hid (wr.ownsRow w1.heap.size 9 1 u ((ds.filter (kR p)).map jW).length (((ds.filter (kR p)).map jW).map Value.string)):=by
    have:=O1.o;rw[List.take_of_length_le oo]at this;exact this
   obtain⟨ps,KP⟩:=Nm ((ds.filter (kR p)).map jW);have hpl:ps.length=(ds.filter (kR p)).length:=by rw[<-KP.o,List.length_map]
   have hpf:(ds.filter (kR p)).length<=ds.length:=List.length_filter_le _ _;rw[KP.o]at O5 htot HBO;go_wp2_with fail;refine(Ii (b1 59) ps w1.heap.size u _ O5.o oo (by unfold acj;show _+ps.length*1<=_;omega)).mono ?_;rw[HBO.o];rintro e w5 ⟨rfl,hb5⟩;have B5:=hid (B0.o.trans ((B1.o.trans ((BR.o.trans (hb5.mono hsr)).mono hs1)).mono hsz0));clear hb5;go_wp2_with fail;go_ret;exact⟨rfl,by rw[zV.o];exact B5.o⟩
