import Derived.Test.YtlliliddljkbfaaGreatDoorC1
import Derived.Test.YtlliliddljkbfaaGreatDoorC5
import Derived.Test.YtlliliddljkbfaaGreatDoorC8
import Derived.Lib.Index
import Derived.Lib.IndexBytes
import Derived.Lib.Strings
namespace Go.Proofs.YtlliliddljkbfaaGreatDoor
set_option maxHeartbeats 64000000
set_option maxRecDepth 100000
open Go.Proofs.Tryz (prog)
open Go.RowKit Sp
section
attribute [local go_sem] dH dI bQ bT
theorem Q4.put{T:TypeId}{w:World}{b:Nat}{x0 x1 x2 x3:Value}(h:Q4 T w b x0 x1 x2 x3)(y0 y1 y2 y3:Value):Q4 T (nC w b y0 y1 y2 y3) b y0 y1 y2 y3:=by have h':w.heap[b]?=_:=h;show _=_;simp only[nC,World.setCell,Array.getElem?_modify,h'];simp
theorem uQ{at_:ByteArray}{hd:List Nd}{bo:Option (List Nd)}{rest:List Nd}(h:bo.isSome=true\/at_≠aA):∃rr,lW (at_,hd,bo,rest)=[rr]/\rr.at_.getD aA=at_/\rr.head=hd/\rr.body=bo:=by
 unfold lW;by_cases he:at_=aA
 .rcases h with h|h
  .cases bo with
   |none=>cases h
   |some b=>exact⟨_,by simp only[he,if_true];rfl,by simp[he],rfl,rfl⟩
  .exact absurd he h
 .exact⟨_,by simp only[if_neg he];rfl,rfl,rfl,rfl⟩
theorem Lp{at_:ByteArray}{hd:List Nd}{bo:Option (List Nd)}{rest:List Nd}{rr:Rule}(h:lW (at_,hd,bo,rest)=[rr]){x:ByteArray}(hx:rr.at_=some x):x≠aA:=by
 unfold lW at h;by_cases he:at_=aA
 .simp only[he,if_true]at h;cases bo with
  |none=>cases h
  |some b=>cases h;cases hx
 .simp only[if_neg he]at h;cases h;cases hx;exact he
theorem IL(B:Nat)(sh:Bool)(l:List Nd)(v:Value)(zs:List Int)(sg:Nat)(w:World)(h:Sl (fun b=>b<B) w v l)(hB:B<=w.heap.size)(hz:zs.length<=10)(hsg:sg<w.heap.size)
  (hc:∀j,j<zs.length->w.cell? ⟨sg,0+j,none⟩=some (.int .i64 (zs.getD j 0))) (hp:∀n:Nd,zs.contains n.t.kind=qF sh n):
  Calls prog 97 #[v,.slice (some ⟨sg,0,none⟩) zs.length zs.length] w fun e w'=>∃u,e=.returned u/\SG kL 4 (fun b=>b<w'.heap.size) w' u (rules sh l)/\Below w.heap.size w w':=by
 have Cc:=h.len;have HS:Hid (Sl (fun b=>b<B) w v l):=h;have HC:Hid (∀j,j<zs.length->w.cell? ⟨sg,0+j,none⟩=some (.int .i64 (zs.getD j 0))):=hc;have HP:Hid (∀n:Nd,zs.contains n.t.kind=qF sh n):=hp;obtain⟨a,cap,rfl⟩:=h.form;clear h hc hp;obtain⟨iT,hiT⟩:=Td;have HI:Hid (prog.info? 118=some iT/\iT.zero=some (.agg #[.string ⟨#[]⟩,.slice none 0 0,.bool false,.slice none 0 0])/\iT.size=4/\iT.bytes=72):=hiT;clear hiT;go_in;go_wp2_with fail;go_loopg[0,5] l.length (fun gg v0 v5 wr=>∃(u cv:Value) (acc:List Rule) (cs:List Value) (cur:List Nd),u=v5/\cv=v0/\cur.length<=gg/\acc.length<=600/\Aside (RaI B sh w l u acc cs cv cur wr));case atStart=>exact⟨_,_,[],[],l,rfl,rfl,oo,by simp,World.ownsRow_nil _ _ _ _,rfl,HS.o,Below.refl _ _,rfl,by simp⟩
 case round=>
  obtain⟨u,cv,acc,cs,cur,rfl,rfl,hcl,hal,hA⟩:=hrel;have HR:Hid (RaI B sh w l u acc cs cv cur wr):=hA.o;clear hA;obtain⟨ua,uc,rfl⟩:=iL HR.o.row;have hsr:=HR.o.below.size;cases cur with
  |nil=>
   obtain⟨ca,cc,rfl⟩:=HR.o.now.form;have HV:Hid (rules sh l=acc):=by show _=_;rw[HR.o.eq];exact List.append_nil _
   go_wp2_with fail;go_ret;exact⟨_,rfl,by rw[HV.o];exact JF kL.fair kL.sized HR.o.row HR.o.cat (fun g hg=>by have hg':g<B:=hg;omega) oo,HR.o.below⟩
  |cons n r=>
   obtain⟨g,o,nv,cap',rfl,hN,hcap⟩:=HR.o.now.head;have c0:=hN.c0;have sQ:Hid (cZ n.t):=hN.ok;clear hN;have h1:(0:Int)<((r.length+1:Nat):Int):=oo;simp only[List.length_cons]at hcl;have II:∀j,j<zs.length->wr.cell? ⟨sg,0+j,none⟩=some (.int .i64 (zs.getD j 0)):=fun j hj=>by rw[HR.o.below.cell (p:=⟨sg,_,none⟩) hsg];exact HC.o j hj
   have YZ:=Tryz.slices_Contains_int sg 0 zs.length zs.length zs n.t.kind wr nl oo II;rw[List.take_of_length_le nl,HP.o n]at YZ;obtain⟨z,Hz⟩:∃z,Hid (qF sh n=z):=⟨_,hid rfl⟩;rw[Hz.o]at YZ;have Y0:Hid (Calls prog 172 #[.slice (some ⟨sg,0,none⟩) zs.length zs.length,.int .i64 n.t.kind] wr fun e w'=>e=.returned (.bool z)/\w'=wr):=YZ;clear YZ II;obtain⟨a1,hr1,hS1⟩:=HR.o.now.IC;have qQ:Hid (Sl (fun b=>b<B) wr (.slice a1 r.length (cap'-1)) r):=hS1;clear hS1;have hln:=HR.o.ln;simp only[List.length_cons]at hln;go_wp2_with fail;refine Y0.o.mono ?_;rintro e wq ⟨rfl,hwq⟩;rw[hwq];clear hwq Y0;cases z
   .clear hr1 qQ;obtain⟨⟨at_,hd,bo,rest⟩,Ho⟩:∃o,Hid (iC n r=o):=⟨_,hid rfl⟩;have Y1:Hid (n.t.kind=10->n.t.word≠aA):=fun hk e=>by have:=sQ.o.named (.inr (.inl hk));rw[e]at this;exact absurd this (by decide)
    have qU:Hid (rules sh l=acc++(lW (at_,hd,bo,rest)++rules sh rest)):=by show _=_;rw[HR.o.eq,IK Hz.o Y1.o,Ho.o]
    have HRL:rest.length<=r.length:=by
     have e:(iC n r).2.2.2=rest:=by rw[Ho.o]
     rw[<-e];unfold iC;split
     .have:=jW (fun m=>aW m||aQ m) r;show(bM _ r).2.2.length<=_;omega
     .have:=jW aQ (n::r);simp only[List.length_cons]at this;show(bM _ (n::r)).2.2.length<=_;omega
    have HLN:Hid (acc.length+1+rest.length<=l.length):=by show _<=_;omega
    have HAT:Hid (at_.size<=4000000):=by
     have e:(iC n r).1=at_:=by rw[Ho.o]
     rw[<-e];unfold iC;split
     .exact sQ.o.word
     .show 0<=_;omega
    have Q2:Hid (Q4 118 (wr.alloc (.cells #[.string ⟨#[]⟩,.slice none 0 0,.bool false,.slice none 0 0] 118)) wr.heap.size (.string ⟨#[]⟩) (.slice none 0 0) (.bool false) (.slice none 0 0)):=Q4.new _ _ _ _ _ _;have X2:Hid (Below wr.heap.size wr (wr.alloc (.cells #[.string ⟨#[]⟩,.slice none 0 0,.bool false,.slice none 0 0] 118))):=(Below.refl _ _).alloc nl _;go_upto_region 6 with fail
    generalize wr.alloc (.cells #[.string ⟨#[]⟩,.slice none 0 0,.bool false,.slice none 0 0] 118)=w2 at *;obtain⟨gt,oU⟩:∃gt,Hid (wr.heap.size=gt):=⟨_,hid rfl⟩;have Q3:Hid (Q4 118 w2 gt (.string ⟨#[]⟩) (.slice none 0 0) (.bool false) (.slice none 0 0)):=by rw[<-oU.o];exact Q2.o
    rw[oU.o];clear Q2;have hs2:=X2.o.size;go_wp2_with fail;refine(OO B n r _ w2 (HR.o.now.below X2.o oo) oo).mono ?_;rw[Ho.o];rintro e w3 ⟨hv,bv,v2,rfl,Tc,VN,hb3⟩;obtain⟨va,vc,rfl⟩:=Tc.head.form;obtain⟨bl,hbl,hbe⟩:=Tc.body;obtain⟨ka,kc,rfl⟩:=hbl.form;obtain⟨ba,bc,rfl⟩:=VN.form;have X3:Hid (Below wr.heap.size wr w3):=X2.o.trans (hb3.mono hs2);have QQ3:Hid (Q4 118 w3 gt (.string ⟨#[]⟩) (.slice none 0 0) (.bool false) (.slice none 0 0)):=Q3.o.below hb3;have HA3:Hid (Sl (fun b=>b<B) w3 (.slice va hd.length vc) hd):=Tc.head;have HB3:Hid (Sl (fun b=>b<B) w3 (.slice ba rest.length bc) rest):=VN;have uD:Hid (Sl (fun b=>b<B) w3 (.slice ka bl.length kc) bl):=hbl;have Rj:Hid (∀b,bo=some b->bl=b):=hbe;have hs3:=X3.o.size;clear Tc hbl hbe VN hb3 Q3 c0;obtain⟨hs,Y2⟩:∃hs,Hid (bo.isSome=hs):=⟨_,hid rfl⟩;rw[Y2.o];have hlg:=QQ3.o.lt
    have hgB:∀k,k<B->(nC w3 gt (.string at_) (.slice va hd.length vc) (.bool hs) (.slice ka bl.length kc)).heap[k]?=w3.heap[k]?:=fun k hk=>jA w3 (by have:=oU.o;omega) _ _ _ _;have Oo:Hid (Below w.heap.size w (nC w3 gt (.string at_) (.slice va hd.length vc) (.bool hs) (.slice ka bl.length kc))):=kC (HR.o.below.trans (X3.o.mono hsr)) (by have:=oU.o;omega) _ _ _ _;have R4:Hid ((nC w3 gt (.string at_) (.slice va hd.length vc) (.bool hs) (.slice ka bl.length kc)).ownsRow w.heap.size 118 4 (.slice ua acc.length uc) acc.length cs):=aX HR.o.row fun k hk=>by have:=(HR.o.row.lt k hk).2;rw[jA w3 (by have:=oU.o;omega)];exact X3.o.block k this
    have CT4:Hid (jv kL (fun b=>b<B) (nC w3 gt (.string at_) (.slice va hd.length vc) (.bool hs) (.slice ka bl.length kc)) acc cs):=HR.o.cat.keep kL.fair (fun _ h=>h) (fun k hk=>by have hk':k<B:=hk;rw[hgB k hk'];exact X3.o.block k oo);have HA4:Hid (Sl (fun b=>b<B) (nC w3 gt (.string at_) (.slice va hd.length vc) (.bool hs) (.slice ka bl.length kc)) (.slice va hd.length vc) hd):=HA3.o.keep (fun _ h=>h) hgB;have HB4:Hid (Sl (fun b=>b<B) (nC w3 gt (.string at_) (.slice va hd.length vc) (.bool hs) (.slice ka bl.length kc)) (.slice ba rest.length bc) rest):=HB3.o.keep (fun _ h=>h) hgB;have HK4:Hid (Sl (fun b=>b<B) (nC w3 gt (.string at_) (.slice va hd.length vc) (.bool hs) (.slice ka bl.length kc)) (.slice ka bl.length kc) bl):=uD.o.keep (fun _ h=>h) hgB
    have Q5:Hid (Q4 118 (nC w3 gt (.string at_) (.slice va hd.length vc) (.bool hs) (.slice ka bl.length kc)) gt (.string at_) (.slice va hd.length vc) (.bool hs) (.slice ka bl.length kc)):=QQ3.o.put _ _ _ _;have ATN:Hid (∀rr:Rule,lW (at_,hd,bo,rest)=[rr]->∀x,rr.at_=some x->x≠aA):=fun rr h x hx=>Lp h hx;have z0:=QQ3.o.fz 0;have z1:=QQ3.o.fz 1;have z2:=QQ3.o.fz 2;have z3:=QQ3.o.fz 3;obtain⟨q0,q1,q2,q3⟩:=QQ3.o.cs;go_upto_region 7 with fail
    change Code.wp _ _ _ _ (nC w3 gt (.string at_) (.slice va hd.length vc) (.bool hs) (.slice ka bl.length kc));have hs4:=Oo.o.size;clear q0 q1 q2 q3 z0 z1 z2 z3 hgB HA3 HB3 uD;generalize nC w3 gt (.string at_) (.slice va hd.length vc) (.bool hs) (.slice ka bl.length kc)=w4 at *;obtain⟨q0,q1,q2,q3⟩:=Q5.o.cs;by_cases he:at_.toList=[]
    .have HEN:Hid (at_=aA):=by
      show at_=aA;have:=aH at_ [];rw[he]at this;exact of_decide_eq_true this.symm
     cases hs
     .have HMK:Hid (lW (at_,hd,bo,rest)=[]):=by
       show _=_;unfold lW;rw[if_pos HEN.o];cases hb:bo with
       |none=>rfl
       |some b=>have:=Y2.o;rw[hb]at this;cases this
      have AX:Hid (RaI B sh w l (.slice ua acc.length uc) acc cs (.slice ba rest.length bc) rest w4):=⟨R4.o,CT4.o,HB4.o,Oo.o,by rw[qU.o,HMK.o];rfl,by have:=HLN.o;omega⟩;go_wp2_with fail;go_roundg(gk-1);case measure=>omega
      case rel=>exact⟨_,_,acc,cs,rest,rfl,rfl,oo,hal,AX.o⟩
     .have HMK:=uQ (hd:=hd) (rest:=rest) (at_:=at_) (.inl Y2.o);obtain⟨rr,Hrr,Lr,Hhd,UN⟩:=HMK;have HRR:Hid (lW (at_,hd,bo,rest)=[rr]):=Hrr;have Gz:Hid ((w4.alloc (.cells #[.string at_,.slice va hd.length vc,.bool true,.slice ka bl.length kc] 118)).ownsRow w.heap.size 118 4 (.slice ua acc.length uc) acc.length cs):=R4.o.alloc _;go_wp2_with(at_builtin;go_must(refine wpList_append_own_at _ rfl _ _ 54 rfl w.heap.size 118 iT (.agg #[.string ⟨#[]⟩,.slice none 0 0,.bool false,.slice none 0 0]) 4 72 Tryz.underlying54 HI.o.1 HI.o.2.1 HI.o.2.2.1 HI.o.2.2.2 rfl oo (.slice ua acc.length uc) acc.length cs rfl Gz.o ⟨w4.heap.size,0,none⟩ 1 1 [.string at_,.slice va hd.length vc,.bool true,.slice ka bl.length kc] rfl rfl (GR _ _ _ _ _ _) (by simp[Value.oneCell']) (by unfold maxLen;omega) oo (by simp;omega) ?_));intro v6 w6 hown6 jO _ zH
      have hlo:∀rr,Value.ownBlock (.slice ua acc.length uc)=some rr->w.heap.size<=rr:=fun rr hr=>(Gz.o.lt rr hr).1;have hb6:Below w.heap.size w4 w6:=((Below.refl _ _).alloc hs4 _).grown jO (by simp;omega) hlo;have AX:Hid (RaI B sh w l v6 (acc++[rr]) (cs++[.string at_,.slice va hd.length vc,.bool true,.slice ka bl.length kc]) (.slice ba rest.length bc) rest w6):=⟨by rw[List.length_append];exact hown6,jv.snoc _ _ (CT4.o.keep kL.fair (fun _ h=>h) (fun k hk=>hb6.block k (Nat.lt_of_lt_of_le hk hB))) rr _ ⟨_,_,bl,by rw[Lr,UN,Y2.o],by rw[Hhd];exact HA4.o.below hb6 hB,HK4.o.below hb6 hB,fun b hb=>Rj.o b (by rw[<-UN];exact hb),fun x hx=>⟨fun e=>by rw[hx,e]at Lr;exact ATN.o rr HRR.o x hx e,by have:=HAT.o;rw[hx]at Lr;simp at Lr;rw[Lr];exact this⟩⟩,HB4.o.below hb6 hB,Oo.o.trans hb6,by rw[qU.o,HRR.o,List.append_assoc],by have:=HLN.o;simp;omega⟩
      have Cc:(acc++[rr]).length<=600:=by have:=AX.o.ln;omega
      clear hown6 jO zH hlo hb6;go_wp2_with fail;go_roundg(gk-1);case measure=>omega
      case rel=>exact⟨_,_,acc++[rr],_,rest,rfl,rfl,oo,Cc,AX.o⟩
    .have HEN:Hid (at_≠aA):=fun e=>he (by rw[e,fP];rfl);have hie:at_.toList.isEmpty=false:=by cases hq:at_.toList with|nil=>exact absurd hq he|cons _ _=>rfl
     have hib:(at_.toList==[])=false:=by cases hq:at_.toList with|nil=>exact absurd hq he|cons _ _=>rfl
     have hin:(at_.toList != [])=true:=by rw[bne,hib];rfl
     cases hs;focus
      have HMK:=uQ (hd:=hd) (rest:=rest) (bo:=bo) (.inr HEN.o);obtain⟨rr,Hrr,Lr,Hhd,UN⟩:=HMK;have HRR:Hid (lW (at_,hd,bo,rest)=[rr]):=Hrr;have Gz:Hid ((w4.alloc (.cells #[.string at_,.slice va hd.length vc,.bool false,.slice ka bl.length kc] 118)).ownsRow w.heap.size 118 4 (.slice ua acc.length uc) acc.length cs):=R4.o.alloc _;go_wp2_with(at_builtin;go_must(refine wpList_append_own_at _ rfl _ _ 54 rfl w.heap.size 118 iT (.agg #[.string ⟨#[]⟩,.slice none 0 0,.bool false,.slice none 0 0]) 4 72 Tryz.underlying54 HI.o.1 HI.o.2.1 HI.o.2.2.1 HI.o.2.2.2 rfl oo (.slice ua acc.length uc) acc.length cs rfl Gz.o ⟨w4.heap.size,0,none⟩ 1 1 [.string at_,.slice va hd.length vc,.bool false,.slice ka bl.length kc] rfl rfl (GR _ _ _ _ _ _) (by simp[Value.oneCell']) (by unfold maxLen;omega) oo (by simp;omega) ?_));intro v6 w6 hown6 jO _ zH
      have hlo:∀rr,Value.ownBlock (.slice ua acc.length uc)=some rr->w.heap.size<=rr:=fun rr hr=>(Gz.o.lt rr hr).1;have hb6:Below w.heap.size w4 w6:=((Below.refl _ _).alloc hs4 _).grown jO (by simp;omega) hlo;have AX:Hid (RaI B sh w l v6 (acc++[rr]) (cs++[.string at_,.slice va hd.length vc,.bool false,.slice ka bl.length kc]) (.slice ba rest.length bc) rest w6):=⟨by rw[List.length_append];exact hown6,jv.snoc _ _ (CT4.o.keep kL.fair (fun _ h=>h) (fun k hk=>hb6.block k (Nat.lt_of_lt_of_le hk hB))) rr _ ⟨_,_,bl,by rw[Lr,UN,Y2.o],by rw[Hhd];exact HA4.o.below hb6 hB,HK4.o.below hb6 hB,fun b hb=>Rj.o b (by rw[<-UN];exact hb),fun x hx=>⟨fun e=>by rw[hx,e]at Lr;exact ATN.o rr HRR.o x hx e,by have:=HAT.o;rw[hx]at Lr;simp at Lr;rw[Lr];exact this⟩⟩,HB4.o.below hb6 hB,Oo.o.trans hb6,by rw[qU.o,HRR.o,List.append_assoc],by have:=HLN.o;simp;omega⟩
     rotate_left;focus
      have HMK:=uQ (hd:=hd) (rest:=rest) (bo:=bo) (.inr HEN.o);obtain⟨rr,Hrr,Lr,Hhd,UN⟩:=HMK;have HRR:Hid (lW (at_,hd,bo,rest)=[rr]):=Hrr;have Gz:Hid ((w4.alloc (.cells #[.string at_,.slice va hd.length vc,.bool true,.slice ka bl.length kc] 118)).ownsRow w.heap.size 118 4 (.slice ua acc.length uc) acc.length cs):=R4.o.alloc _;go_wp2_with(at_builtin;go_must(refine wpList_append_own_at _ rfl _ _ 54 rfl w.heap.size 118 iT (.agg #[.string ⟨#[]⟩,.slice none 0 0,.bool false,.slice none 0 0]) 4 72 Tryz.underlying54 HI.o.1 HI.o.2.1 HI.o.2.2.1 HI.o.2.2.2 rfl oo (.slice ua acc.length uc) acc.length cs rfl Gz.o ⟨w4.heap.size,0,none⟩ 1 1 [.string at_,.slice va hd.length vc,.bool true,.slice ka bl.length kc] rfl rfl (GR _ _ _ _ _ _) (by simp[Value.oneCell']) (by unfold maxLen;omega) oo (by simp;omega) ?_));intro v6 w6 hown6 jO _ zH
      have hlo:∀rr,Value.ownBlock (.slice ua acc.length uc)=some rr->w.heap.size<=rr:=fun rr hr=>(Gz.o.lt rr hr).1;have hb6:Below w.heap.size w4 w6:=((Below.refl _ _).alloc hs4 _).grown jO (by simp;omega) hlo;have AX:Hid (RaI B sh w l v6 (acc++[rr]) (cs++[.string at_,.slice va hd.length vc,.bool true,.slice ka bl.length kc]) (.slice ba rest.length bc) rest w6):=⟨by rw[List.length_append];exact hown6,jv.snoc _ _ (CT4.o.keep kL.fair (fun _ h=>h) (fun k hk=>hb6.block k (Nat.lt_of_lt_of_le hk hB))) rr _ ⟨_,_,bl,by rw[Lr,UN,Y2.o],by rw[Hhd];exact HA4.o.below hb6 hB,HK4.o.below hb6 hB,fun b hb=>Rj.o b (by rw[<-UN];exact hb),fun x hx=>⟨fun e=>by rw[hx,e]at Lr;exact ATN.o rr HRR.o x hx e,by have:=HAT.o;rw[hx]at Lr;simp at Lr;rw[Lr];exact this⟩⟩,HB4.o.below hb6 hB,Oo.o.trans hb6,by rw[qU.o,HRR.o,List.append_assoc],by have:=HLN.o;simp;omega⟩
     rotate_left;all_goals
      have Cc:(acc++[rr]).length<=600:=by have:=AX.o.ln;omega
      clear hown6 jO zH hlo hb6;go_wp2_with fail;go_roundg(gk-1);case measure=>omega
      case rel=>exact⟨_,_,acc++[rr],_,rest,rfl,rfl,oo,Cc,AX.o⟩
   .have Du:Hid (RaI B sh w l (.slice ua acc.length uc) acc cs (.slice a1 r.length (cap'-1)) r wr):=⟨HR.o.row,HR.o.cat,qQ.o,HR.o.below,by rw[HR.o.eq,En Hz.o],oo⟩;go_wp2_with fail;go_roundg(gk-1);case measure=>omega
    case rel=>exact⟨_,_,acc,cs,r,rfl,rfl,oo,hal,Du.o⟩
end
end Go.Proofs.YtlliliddljkbfaaGreatDoor
namespace Go.Proofs.YtlliliddljkbfaaGreatDoor.Sp
set_option maxHeartbeats 64000000
set_option maxRecDepth 100000
open Go
def pre(s:ByteArray):Nat->List UInt8->Bool
 |_,[]=>true
 |i,a::r=>pk s i==(a.toNat:Int)&&pre s (i+1) r
theorem drop_cons{s:ByteArray}{i:Nat}(h:i<s.size):s.data.toList.drop i=s[i]::s.data.toList.drop (i+1):=by rw[List.drop_eq_getElem_cons (by simpa using h)];rfl
theorem Y3(a b:UInt8):((a.toNat:Int)==(b.toNat:Int))=(b==a):=by
 rw[Bool.eq_iff_iff];simp only[beq_iff_eq];constructor
 .intro h;exact(UInt8.toNat_inj.1 (by omega)).symm
 .intro h;rw[h]
theorem qV(s:ByteArray):∀(l:List UInt8) (i:Nat),l.isPrefixOf (s.data.toList.drop i)=pre s i l
 |[],i=>by simp[pre]
 |a::r,i=>by
  by_cases h:i<s.size
  .rw[drop_cons h,List.isPrefixOf,qV s r (i+1),pre,Iy h,Y3]
  .have:s.data.toList.drop i=[]:=List.drop_eq_nil_of_le (by simpa using h);rw[this,pre,mO (by omega)];have:((-1:Int)==(a.toNat:Int))=false:=by rw[beq_eq_false_iff_ne];omega
   rw[this];simp
theorem Y4(s:ByteArray)(i:Nat)(l:ByteArray):Lib.hasPrefix (s.extract i s.size).data.toList l.data.toList=pre s i l.data.toList:=by rw[Lib.extract_to_end,Lib.hasPrefix,qV]
theorem VO(s:ByteArray)(i:Nat)(t:ByteArray)(hi:i<=s.size):(decide (i+t.size<=s.size)&&((s.extract i (i+t.size)).toList==t.toList))=pre s i t.data.toList:=by
 have ht:t.toList=t.data.toList:=by rw[ByteArray.toList_eq]
 have he:(s.extract i (i+t.size)).toList=(s.data.toList.drop i).take t.size:=by rw[ByteArray.toList_eq,Lib.extract_data];congr 1;omega
 have hts:t.data.toList.length=t.size:=rfl;rw[ht,he,<-qV,Bool.eq_iff_iff];simp only[Bool.and_eq_true,decide_eq_true_eq,beq_iff_eq,List.isPrefixOf_iff_prefix];constructor
 .rintro ⟨_,h2⟩;rw[<-h2];exact List.take_prefix _ _
 .intro h;have hl:=h.length_le;simp only[List.length_drop,Array.length_toList,hts]at hl;have hsz:s.data.size=s.size:=rfl;refine⟨by omega,?_⟩;have:=List.prefix_iff_eq_take.1 h;rw[hts]at this;exact this.symm
theorem Ci(s:ByteArray):∀f k,s.size<=k+f->k<=s.size->Lib.index (s.data.toList.drop k) [42,47]=if ku s f k<s.size then((ku s f k:Nat):Int)-k else -1
 |0,k,h,h'=>by have:s.data.toList.drop k=[]:=List.drop_eq_nil_of_le (by simp;exact h);rw[this,ku,if_neg (by omega)];rfl
 |f+1,k,h,h'=>by
  by_cases hk:k<s.size
  .have hp:([42,47]:List UInt8).isPrefixOf (s[k]::s.data.toList.drop (k+1))=(pk s k==42&&pk s (k+1)==47):=by
    rw[<-drop_cons hk,qV];simp[pre]
   rw[drop_cons hk,Lib.index,hp];by_cases hs:pk s k=42/\pk s (k+1)=47
   .have e1:ku s (f+1) k=k:=by unfold ku;rw[if_neg (fun h=>h.2 hs)]
    have e2:(pk s k==42&&pk s (k+1)==47)=true:=by simp[hs]
    rw[e1,e2,if_pos rfl,if_pos hk];omega
   .have e1:ku s (f+1) k=ku s f (k+1):=by
     conv=>lhs;unfold ku
     rw[if_pos ⟨hk,hs⟩]
    have e2:(pk s k==42&&pk s (k+1)==47)=false:=by rw[Bool.eq_false_iff];intro h;exact hs (by simpa using h)
    have hge:=y9 s f (k+1);rw[e1,e2,if_neg (by simp),Ci s f (k+1) (by omega) (by omega)];by_cases h2:ku s f (k+1)<s.size
    .rw[if_pos h2,if_pos h2,if_neg (by rw[beq_iff_eq];omega)];omega
    .rw[if_neg h2,if_neg h2,if_pos (by rfl)]
  .have hd:s.data.toList.drop k=[]:=List.drop_eq_nil_of_le (by simp;omega);have hge:=y9 s (f+1) k;rw[hd,if_neg (by omega)];rfl
theorem Eo{s:ByteArray}{k:Nat}(h:k<=s.size):Lib.index (s.extract k s.size).data.toList [42,47]=if star s k<s.size then((star s k:Nat):Int)-k else -1:=by rw[Lib.extract_to_end];exact Ci s s.size k (by omega) h
theorem GX{s:ByteArray}{k:Nat}(h:k<=s.size)(h':star s k<s.size):Lib.index (s.extract k s.size).data.toList [42,47]=((star s k:Nat):Int)-k:=by rw[Eo h,if_pos h']
theorem Ep{s:ByteArray}{k:Nat}(h:k<=s.size)(h':s.size<=star s k):Lib.index (s.extract k s.size).data.toList [42,47] = -1:=by rw[Eo h,if_neg (by omega)]
end Go.Proofs.YtlliliddljkbfaaGreatDoor.Sp
namespace Go.Proofs.YtlliliddljkbfaaGreatDoor
set_option maxHeartbeats 64000000
set_option maxRecDepth 100000
open Go.Proofs.Tryz (prog)
open Go.RowKit
def aB:List ByteArray->ByteArray
 |[]=>ByteArray.empty
 |x::r=>x++aB r
def total:List ByteArray->Nat
 |[]=>0
 |x::r=>x.size+total r
theorem dN:∀(a b:List ByteArray),total (a++b)=total a+total b
 |[],b=>by simp[total]
 |x::a,b=>by simp[total,dN a b];omega
theorem pq:∀(a b:List ByteArray),aB (a++b)=aB a++aB b
 |[],b=>by simp[aB]
 |x::a,b=>by simp[aB,pq a b,ByteArray.append_assoc]
theorem kE:∀(a:List ByteArray),(aB a).size=total a
 |[]=>rfl
 |x::a=>by simp[aB,total,kE a]
theorem bU(a:List ByteArray)(x:ByteArray):aB (a++[x])=aB a++x:=by simp[pq,aB]
theorem take_snoc{α:Type}(l:List α)(k:Nat)(h:k<l.length):l.take (k+1)=l.take k++[l[k]]:=by rw[List.take_succ_eq_append_getElem h]
theorem oI(l:List ByteArray)(k:Nat):total (l.take k)<=total l:=by have:=dN (l.take k) (l.drop k);rw[List.take_append_drop]at this;omega
theorem Ls(a b:ByteArray):byteCells (a++b)=byteCells a++byteCells b:=by simp[byteCells,ByteArray.data_append]
theorem Tf(ps:List ByteArray)(g cap base:Nat)(w:World)(h:w.ownsRow base 9 1 (.slice (some ⟨g,0,none⟩) ps.length cap) ps.length (ps.map Value.string))(hn:ps.length<=1099511627776)(ht:total ps<=1099511627776):
  Calls prog 55 #[.slice (some ⟨g,0,none⟩) ps.length cap] w fun e w'=>e=.returned (.string (aB ps))/\Below w.heap.size w w':=by
 have hcell:∀k (hk:k<ps.length),w.cell? ⟨g,k,none⟩=some (.string ps[k]):=by intro k hk;have:=h.cells (g:=g) rfl k (.string ps[k]) (by simp[hk]);rwa[Addr.add_lit,Nat.zero_add]at this
 have aa3:g<w.heap.size:=(h.lt g rfl).2;clear h;have HC:Hid (∀k (hk:k<ps.length),w.cell? ⟨g,k,none⟩=some (.string ps[k])):=hcell;clear hcell;obtain⟨iU,hiU,hzU,hsU,hbU⟩:=Jz;have HI:Hid (prog.info? 5=some iU/\iU.zero=some (.int .u8 0)/\iU.size=1/\iU.bytes=1):=⟨hiU,hzU,hsU,hbU⟩;clear hiU hzU hsU hbU;go_in;go_wp2_with fail;go_loopg[3,11] ps.length (fun gg v3 v11 wr=>∃k:Nat,k+gg=ps.length/\v11=.int .i64 (k:Int)/\v3=.int .i64 (total (ps.take k):Int)/\Aside (w=wr));case atStart=>exact⟨0,by omega,rfl,rfl,rfl⟩
 case round=>
  obtain⟨k,hk,rfl,rfl,hA⟩:=hrel;obtain rfl:=hA.out;clear hA;have hle:=oI ps k;by_cases hlt:k<ps.length
  .have hc:=HC.out k hlt;have hT:Hid (total (ps.take (k+1))=total (ps.take k)+ps[k].size):=by
    show _=_;rw[take_snoc ps k hlt,dN];simp[total]
   have hle2:=oI ps (k+1);have hsz:ps[k].size<=1099511627776:=by have:=hT.out;omega
   clear hle2;go_wp2_with fail;go_roundg(gk-1);case measure=>omega
   case rel=>exact⟨k+1,by omega,by congr 1,by rw[hT.out];congr 1,rfl⟩
  .have hk2:Hid (k=ps.length):=by show k=_;omega
   have hT:Hid (ps.take k=ps):=by show _=_;rw[hk2.out];simp
   have hsum:Hid (total (ps.take k)=total ps):=by show _=_;rw[hT.out]
   generalize hm:total (ps.take k)=m at *;have Hm:Hid (m=total ps):=hsum.out;clear hm hsum hT;have afe:m<=1099511627776:=by omega
   go_wp2_with(at_make;refine wpList_make_own _ rfl _ _ 182 rfl w.heap.size 5 iU (.int .u8 0) 1 Tryz.underlying182 HI.out.1 HI.out.2.1 HI.out.2.2.1 _ _ _ m rfl rfl rfl ?_ ?_ ?_ ?_)
   .rw[HI.out.2.2.2];omega
   .unfold maxLen;omega
   .exact Nat.le_refl _
   intro w1 hown1 Lu;have hb1:Below w.heap.size w w1:=(Below.refl _ _).grown Lu (Nat.le_refl _) (fun _ h=>by cases h);have HB1:Hid (Below w.heap.size w w1):=hb1;have qK:Hid (w1.ownsRow w.heap.size 5 1 (.slice (some ⟨w.heap.size,0,none⟩) 0 m) 0 []):=hown1;clear hown1 Lu hb1;go_wp2_with fail;go_loopg[6,24] ps.length (fun gg v6 v24 w2=>∃j:Nat,j+gg=ps.length/\v24=.int .i64 (j:Int)/\v6=.slice (some ⟨w.heap.size,0,none⟩) (total (ps.take j)) m /\
    Aside (w2.ownsRow w.heap.size 5 1 (.slice (some ⟨w.heap.size,0,none⟩) (total (ps.take j)) m) (total (ps.take j)) (byteCells (aB (ps.take j)))/\Below w.heap.size w w2))
   case atStart=>exact⟨0,by omega,rfl,rfl,qK.out,HB1.out⟩
   case round=>
    obtain⟨j,hj,rfl,rfl,hA⟩:=hrel;have HO:Hid (wr.ownsRow w.heap.size 5 1 (.slice (some ⟨w.heap.size,0,none⟩) (total (ps.take j)) m) (total (ps.take j)) (byteCells (aB (ps.take j)))):=hA.out.1;have HB:Hid (Below w.heap.size w wr):=hA.out.2;clear hA;have hle2:=oI ps j;by_cases hlt2:j<ps.length
    .have hc:wr.cell? ⟨g,j,none⟩=some (.string ps[j]):=by
      rw[HB.out.cell (p:=⟨g,j,none⟩) aa3];exact HC.out j hlt2
     have hT:Hid (total (ps.take (j+1))=total (ps.take j)+ps[j].size):=by show _=_;rw[take_snoc ps j hlt2,dN];simp[total]
     have hle3:total (ps.take j)+ps[j].size<=m:=by have h1:=oI ps (j+1);have h2:=hT.out;have h3:=Hm.out;omega
     generalize hpj:ps[j]=q at *;generalize htj:total (ps.take j)=tj at *;have Hpj:Hid (ps[j]=q):=hpj;have Htj:Hid (total (ps.take j)=tj):=htj;clear hpj htj;go_wp2_with(at_builtin;refine zB _ rfl _ _ 182 9 rfl w.heap.size 5 iU Tryz.underlying182 Tryz.underlying9 HI.out.1 HI.out.2.2.1 w.heap.size tj m (byteCells (aB (ps.take j))) rfl HO.out q rfl hle3 ?_);intro w3 hown3 VP;have HO3:Hid (w3.ownsRow w.heap.size 5 1 (.slice (some ⟨w.heap.size,0,none⟩) (tj+q.size) m) (tj+q.size) (byteCells (aB (ps.take j))++byteCells q)):=hown3;have HB3:Hid (Below w.heap.size w w3):=HB.out.grown VP HB.out.size (fun k hk=>by cases hk;exact Nat.le_refl _);clear hown3 VP;go_wp2_with fail;go_roundg(gk-1);case measure=>omega
     case rel=>refine⟨j+1,by omega,by congr 1,by rw[hT.out],?_,HB3.out⟩;rw[hT.out,take_snoc ps j hlt2,bU,Ls,Hpj.out];exact HO3.out
    .have hT:Hid (ps.take j=ps):=by show _=_;rw[List.take_of_length_le (by omega)]
     have hcv:(convert 182 9 (.slice (some ⟨w.heap.size,0,none⟩) (total (ps.take j)) m)).run prog wr=.ok (.string (aB ps)) wr:=by
      have h1:=HO.out;rw[hT.out]at h1⊢;rw[GU]at h1;have h2:=Eh (P:=prog) wr 182 9 5 Tryz.underlying182 Tryz.underlying5 Tryz.underlying9 (base:=w.heap.size) (v:=.slice (some ⟨w.heap.size,0,none⟩) (total ps) m) (aB ps).data.toList (by
       have e:(aB ps).data.toList.length=total ps:=by rw[<-kE];rfl
       rw[e];exact h1)
      simpa using h2
     go_wp2_with fail;go_ret;exact⟨rfl,HB.out⟩
theorem Ti(w:World):Calls prog 55 #[.slice none 0 0] w fun e w'=>e=.returned (.string ByteArray.empty)/\Below w.heap.size w w':=by
 obtain⟨iU,hiU,hzU,hsU,hbU⟩:=Jz;have HI:Hid (prog.info? 5=some iU/\iU.zero=some (.int .u8 0)/\iU.size=1/\iU.bytes=1):=⟨hiU,hzU,hsU,hbU⟩;clear hiU hzU hsU hbU;go_in;go_wp2_with fail;go_loopg[3,11] 0 (fun gg v3 v11 wr=>v11=.int .i64 0/\v3=.int .i64 0/\Aside (w=wr));case atStart=>exact⟨rfl,rfl,rfl⟩
 case round=>
  obtain⟨rfl,rfl,hA⟩:=hrel;obtain rfl:=hA.out;clear hA;go_wp2_with(at_make;refine wpList_make_own _ rfl _ _ 182 rfl w.heap.size 5 iU (.int .u8 0) 1 Tryz.underlying182 HI.out.1 HI.out.2.1 HI.out.2.2.1 _ _ _ 0 rfl rfl rfl ?_ ?_ ?_ ?_)
  .omega
  .unfold maxLen;omega
  .exact Nat.le_refl _
  intro w1 hown1 Lu;have HB1:Hid (Below w.heap.size w w1):=(Below.refl _ _).grown Lu (Nat.le_refl _) (fun _ h=>by cases h);have qK:Hid (w1.ownsRow w.heap.size 5 1 (.slice (some ⟨w.heap.size,0,none⟩) 0 0) 0 []):=hown1;clear hown1 Lu;go_wp2_with fail;go_loopg[6,24] 0 (fun gg v6 v24 w2=>v24=.int .i64 0/\v6=.slice (some ⟨w.heap.size,0,none⟩) 0 0/\Aside (w1=w2));case atStart=>exact⟨rfl,rfl,rfl⟩
  case round=>
   obtain⟨rfl,rfl,hA⟩:=hrel;obtain rfl:=hA.out;clear hA;have hcv:(convert 182 9 (.slice (some ⟨w.heap.size,0,none⟩) 0 0)).run prog w1=.ok (.string ByteArray.empty) w1:=Eh (P:=prog) w1 182 9 5 Tryz.underlying182 Tryz.underlying5 Tryz.underlying9 (base:=w.heap.size) (v:=.slice (some ⟨w.heap.size,0,none⟩) 0 0) [] qK.out
   go_wp2_with fail;go_ret;exact⟨rfl,HB1.out⟩
theorem eG(ps:List ByteArray)(base:Nat)(v:Value)(w:World)(h:w.ownsRow base 9 1 v ps.length (ps.map Value.string))(hn:ps.length<=1099511627776)(ht:total ps<=1099511627776):
  Calls prog 55 #[v] w fun e w'=>e=.returned (.string (aB ps))/\Below w.heap.size w w':=by
 rcases h.2 with⟨rfl,h0⟩|⟨g,cap,cur,rfl,_⟩
 .have:ps=[]:=List.eq_nil_of_length_eq_zero h0;subst this;exact Ti w
 .exact Tf ps g cap base w h hn ht
end Go.Proofs.YtlliliddljkbfaaGreatDoor
