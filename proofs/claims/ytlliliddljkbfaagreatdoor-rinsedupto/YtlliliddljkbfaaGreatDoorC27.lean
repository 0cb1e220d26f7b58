import Derived.Test.YtlliliddljkbfaaGreatDoorC26
namespace Go.Proofs.YtlliliddljkbfaaGreatDoor
set_option maxHeartbeats 64000000
set_option maxRecDepth 100000
open Go.Proofs.Tryz (prog)
open Go.RowKit Sp
section
theorem WA(sh:Bool)(n:Nd):qF sh n=((n.t.kind==1)||(sh&&((n.t.kind==8)||(n.t.kind==9)))):=rfl
section
variable {B gb:Nat} {z:Bool} {w0 wr wr':World} {l:List Nd} {at_:ByteArray} {c:List Nd × Option Nd × List Nd} {hv bv:Value} {hd bl:List Nd} {hs:Bool} {cs:List Value} {j:Nat} {dn:Bool}
theorem BK.upon(h:BK B gb z w0 l at_ c hv bv hd bl hs cs j dn wr)(hb:Below wr.heap.size wr wr')(hB:B<=gb)(hw:gb<=wr.heap.size):BK B gb z w0 l at_ c hv bv hd bl hs cs j dn wr':=⟨h.own.below hb,aX h.row fun k hk=>hb.block k (h.row.lt k hk).2,h.kc.keep (fun _ h=>h) (fun k hk=>hb.block k (by have hk':k<B:=hk;omega)),h.bs.below hb oo,h.below.trans (hb.mono hw),h.rd⟩
theorem BK.more{m:Nd}{v8:Value}{X:Obj}{w8:World}{ka:Option Addr}{kc:Nat}(h:BK B gb z w0 l at_ c hv bv hd bl hs cs j false wr)(hB:B<=gb)(hw:gb<wr.heap.size)(hk:Sl (fun b=>b<B) wr (.slice ka m.kids.length kc) m.kids)(hok:cZ m.t)(hn:l.drop j=m::l.drop (j+1))(hst:ni z m=false)
  (hown:w8.ownsRow (gb+1) 134 4 v8 (hd.length+1) (cs++[.int .i64 m.t.kind,.string m.t.word,.string m.t.unit,.slice ka m.kids.length kc])) (hgr:(wr.drew.alloc X).grownBy w8 hv.ownBlock):
  BK B gb z w0 l at_ c v8 bv (hd++[m]) bl hs (cs++[.int .i64 m.t.kind,.string m.t.word,.string m.t.unit,.slice ka m.kids.length kc]) (j+1) false (w8.setCell ⟨gb,2,none⟩ v8):=by
 have hlo:∀rr,Value.ownBlock hv=some rr->gb+1<=rr:=fun rr hr=>(h.row.lt rr hr).1;have ed:wr.drew.heap.size=wr.heap.size:=rfl;have hg8:gb+1<=(wr.drew.alloc X).heap.size:=by
  have e2:(wr.drew.alloc X).heap.size=wr.drew.heap.size+1:=by simp
  omega
 have hb8:Below (gb+1) wr w8:=((Below.refl _ _).drew.alloc (by show gb+1<=wr.heap.size;omega) _).grown hgr hg8 hlo;have DI:Below gb wr (w8.setCell ⟨gb,2,none⟩ v8):=Below.setCell (B:=gb) (p:=⟨gb,2,none⟩) (hb8.mono oo) nl v8;have hne:∀k,k≠gb->(w8.setCell ⟨gb,2,none⟩ v8).heap[k]?=w8.heap[k]?:=fun k hk=>Below.heap_setCell _ _ _ _ hk;refine⟨(h.own.keep (hb8.block gb oo)).set2 _,?_,?_,h.bs.below DI hB,h.below.trans DI,h.rd.step hn hst⟩
 .rw[List.length_append];exact aX hown fun k hk=>hne k (by have:=(hown.lt k hk).1;omega)
 .exact kY.snoc _ _ (h.kc.keep (fun _ h=>h) (fun k hk=>DI.block k (by have hk':k<B:=hk;omega))) m _ ⟨hk.below DI hB,hok⟩
theorem BK.closed{m:Nd}{kv:Value}(h:BK B gb z w0 l at_ c hv bv hd bl hs cs j false wr)(hB:B<=gb)(hk:Sl (fun b=>b<B) wr kv m.kids)(hn:l.drop j=m::l.drop (j+1))(hb:aQ m=true):
  BK B gb z w0 l at_ c hv kv hd m.kids true cs (j+1) true ((wr.setCell ⟨gb,3,none⟩ kv).setCell ⟨gb,4,none⟩ (.bool true)):=by
 have DI:Below gb wr ((wr.setCell ⟨gb,3,none⟩ kv).setCell ⟨gb,4,none⟩ (.bool true)):=(Below.setCell (p:=⟨gb,3,none⟩) (Below.refl gb wr) nl kv).setCell (p:=⟨gb,4,none⟩) nl _;have hne:∀k,k≠gb->((wr.setCell ⟨gb,3,none⟩ kv).setCell ⟨gb,4,none⟩ (.bool true)).heap[k]?=wr.heap[k]?:=fun k hk=>(Below.heap_setCell _ _ _ _ hk).trans (Below.heap_setCell _ _ _ _ hk);exact⟨(h.own.jr _).nC _,aX h.row fun k hk=>hne k (by have:=(h.row.lt k hk).1;omega),h.kc.keep (fun _ h=>h) (fun k hk=>DI.block k (by have hk':k<B:=hk;omega)),hk.below DI hB,h.below.trans DI,h.rd.body hn hb⟩
end
theorem Rz(B:Nat)(sh:Bool)(l:List Nd)(v:Value)(w:World)(h:Sl (fun b=>b<B) w v l)(hB:B<=w.heap.size):
  Calls prog 28 #[v,.bool sh] w fun e w'=>∃u,e=.returned u/\SG GI 5 (fun b=>b<w'.heap.size) w' u (rules sh l)/\Below w.heap.size w w':=by
 have Cc:=h.len;have HS:Hid (Sl (fun b=>b<B) w v l):=h;obtain⟨a,cap,rfl⟩:=h.form;clear h;obtain⟨iT,hiT⟩:=ZA;have HI:Hid (prog.info? 110=some iT/\iT.zero=some (.agg #[.string ⟨#[]⟩,.bool false,.slice none 0 0,.slice none 0 0,.bool false])/\iT.size=5/\iT.bytes=80):=hiT;obtain⟨iN,hiN⟩:=pV;have HN:Hid (prog.info? 134=some iN/\iN.zero=some (.agg #[.int .i64 0,.string ⟨#[]⟩,.string ⟨#[]⟩,.slice none 0 0])/\iN.size=4/\iN.bytes=64):=hiN;clear hiT hiN;go_in;go_wp2_with fail;go_loopg[5,6] l.length (fun gg v5 v6 wr=>∃(u:Value) (acc:List Rule) (cs:List Value) (i:Nat),u=v5/\v6=.int .i64 (i:Int)/\i+gg=l.length/\acc.length<=600/\Aside (RrI B sh w l u acc cs i wr));case atStart=>exact⟨_,[],[],0,rfl,rfl,oo,by simp,World.ownsRow_nil _ _ _ _,rfl,Below.refl _ _,rfl,by simp⟩
 case round=>
  obtain⟨u,acc,cs,i,rfl,rfl,hi,hal,hA⟩:=hrel;obtain⟨wo,rfl⟩:∃q,q=wr:=⟨_,rfl⟩;have HR:Hid (RrI B sh w l u acc cs i wo):=hA.o;clear hA;obtain⟨ua,uc,rfl⟩:=iL HR.o.row;have hsr:=HR.o.below.size;by_cases hlt:i<l.length
  .have h1:(i:Int)<(l.length:Int):=oo;have S1:=HS.o.below HR.o.below hB;have qQ:Hid (Sl (fun b=>b<B) wo (.slice a l.length cap) l):=S1;obtain⟨g,o,rfl,hL,hcap⟩:=S1.here (by rintro rfl;simp at hlt);obtain⟨kv,hN⟩:=hL.node (i:=i) hlt;have HL:Hid (eP (fun b=>b<B) wo l g o):=hL;have hgB:g<B:=hN.s;obtain⟨n,hn⟩:∃n,n=l[i]:=⟨_,rfl⟩;have Hdr:Hid (l.drop i=n::l.drop (i+1)):=by show _=_;rw[hn];exact List.drop_eq_getElem_cons hlt
   rw[<-hn]at hN;have d0:=hN.c0;have d1:=hN.c1;have sQ:Hid (cZ n.t):=hN.ok;clear hN hL S1 hn;obtain⟨b,Hb⟩:∃b,Hid (qF sh n=b):=⟨_,hid rfl⟩;have RD:Hid (qF sh n=((n.t.kind==1)||(sh&&((n.t.kind==8)||(n.t.kind==9))))):=WA sh n;go_upto_region 5 with fail
   go_cut [34] (fun s34 wx=>s34=.bool b/\wx=wo);case first=>
    cases h1:(n.t.kind==1)
    .cases sh
     .go_wp2_with fail;go_meet
      exact⟨by rw[<-Hb.o,RD.o,h1];rfl,rfl⟩
     .cases h8:(n.t.kind==8)
      .cases h9:(n.t.kind==9)
       .go_wp2_with fail;go_meet
        exact⟨by rw[<-Hb.o,RD.o,h1,h8,h9];rfl,rfl⟩
       .go_wp2_with fail;go_meet
        exact⟨by rw[<-Hb.o,RD.o,h1,h8,h9];rfl,rfl⟩
      .go_wp2_with fail;go_meet
       exact⟨by rw[<-Hb.o,RD.o,h1,h8];rfl,rfl⟩
    .go_wp2_with fail;go_meet
     exact⟨by rw[<-Hb.o,RD.o,h1];rfl,rfl⟩
   case rest=>
   obtain⟨rfl,hwc⟩:=hcut;obtain rfl:=hwc.symm;clear RD;cases b;case true=>
    have HC:Hid (RrI B sh w l (.slice ua acc.length uc) acc cs (i+1) wo):=⟨HR.o.row,HR.o.cat,HR.o.below,by rw[HR.o.eq,Hdr.o,En Hb.o],by have:=HR.o.ln;omega⟩;go_wp2_with fail;go_roundg(gk-1);case measure=>omega
    case rel=>exact⟨_,acc,cs,i+1,rfl,by congr 1,oo,hal,HC.o⟩
   case false=>
   have Y1:Hid (n.t.kind=10->n.t.word≠aA):=fun hk e=>by have:=sQ.o.named (.inr (.inl hk));rw[e]at this;exact absurd this (by decide)
   have HAT:Hid (n.t.word.size<=4000000):=sQ.o.word;have Q2:Hid (Q5 110 (wo.alloc (.cells #[.string n.t.word,.bool (n.t.kind==10),.slice none 0 0,.slice none 0 0,.bool false] 110)) wo.heap.size (.string n.t.word) (.bool (n.t.kind==10)) (.slice none 0 0) (.slice none 0 0) (.bool false)):=Q5.new _ _ _ _ _ _ _;have X2:Hid (Below wo.heap.size wo (wo.alloc (.cells #[.string n.t.word,.bool (n.t.kind==10),.slice none 0 0,.slice none 0 0,.bool false] 110))):=(Below.refl _ _).alloc nl _;go_upto_region 8 with fail
   generalize wo.alloc (.cells #[.string n.t.word,.bool (n.t.kind==10),.slice none 0 0,.slice none 0 0,.bool false] 110)=w2 at *;obtain⟨gb,RF⟩:∃gb,Hid (wo.heap.size=gb):=⟨_,hid rfl⟩;rw[RF.o]at Q2 X2 hsr⊢;clear d0 d1;cases hz:(n.t.kind==10)
   .rw[hz]at Q2;obtain⟨c,Hc⟩:∃c,Hid (bM (ni false) (n::l.drop (i+1))=c):=⟨_,hid rfl⟩;have qU:Hid (rules sh l=acc++(TU false n.t.word c.1 (dw c.2.1)++rules sh c.2.2)):=by show _=_;rw[HR.o.eq,Hdr.o,MQ Hb.o Y1.o false hz c Hc.o]
    have hc1:c.1.length<=600:=by have:=BJ (ni false) (n::l.drop (i+1));rw[Hc.o]at this;simp only[List.length_cons,List.length_drop]at this;omega
    have H0:Hid (BK B gb false wo l n.t.word c (.slice none 0 0) (.slice none 0 0) [] [] false [] i false w2):=⟨Q2.o,World.ownsRow_nil _ _ _ _,rfl,Sl.nil _ _,X2.o,rfl,by rw[<-Hc.o,<-Hdr.o];simp⟩;have aen:=Q2.o.lt;obtain⟨q0,q1,q2,q3,q4⟩:=Q2.o.cs;clear hz;go_wp2_with fail;clear q0 q1 q2 q3 q4;go_loopg[6,9] l.length (fun gg v6 v9 wy=>∃(j:Nat) (hv bv:Value) (hd bl:List Nd) (hs dn:Bool) (hcs:List Value),v6=.int .i64 (j:Int)/\v9=.bool dn/\l.length<=j+gg/\j<=l.length/\i<=j/\(dn=true->i<j)/\Aside (BK B gb false wo l n.t.word c hv bv hd bl hs hcs j dn wy));case atStart=>exact⟨i,_,_,[],[],false,false,[],by first|rfl|congr 1,rfl,oo,oo,oo,by simp,H0.o⟩
    case round=>
     obtain⟨wy,rfl⟩:∃q,q=wr:=⟨_,rfl⟩;obtain⟨j,hv,bv,hd,bl,hs,dn,hcs,rfl,rfl,hj,hjl,hij,hdn,hA⟩:=hrel;have HH:Hid (BK B gb false wo l n.t.word c hv bv hd bl hs hcs j dn wy):=hA.o;clear hA H0;obtain⟨ha,hc,rfl⟩:=iL HH.o.row;obtain⟨ba,bc,rfl⟩:=HH.o.bs.form;have hgy:=HH.o.own.lt;have hhl:hd.length<=600:=Nat.le_trans HH.o.rd.len hc1;have hsy:=HH.o.below.size;by_cases hex:dn=false/\j<l.length
     .obtain⟨rfl,hjlt⟩:=hex;have h2:(j:Int)<(l.length:Int):=oo;obtain⟨kv,hN⟩:=HL.o.node (i:=j) hjlt;obtain⟨m,hm⟩:∃m,m=l[j]:=⟨_,rfl⟩;have PL:Hid (l.drop j=m::l.drop (j+1)):=by show _=_;rw[hm];exact List.drop_eq_getElem_cons hjlt
      rw[<-hm]at hN;obtain⟨ka,kc,rfl⟩:=hN.k.form;have HKX:Hid (Sl (fun b=>b<B) wo (.slice ka m.kids.length kc) m.kids):=hN.k;have HMT:Hid (cZ m.t):=hN.ok;have nU:Hid (∀wq,Below gb wo wq->wq.cell? ⟨g,o+j*4,none⟩=some (.int .i64 m.t.kind)/\wq.cell? ⟨g,o+j*4+1,none⟩=some (.string m.t.word)/\wq.cell? ⟨g,o+j*4+2,none⟩=some (.string m.t.unit)/\wq.cell? ⟨g,o+j*4+3,none⟩=some (.slice ka m.kids.length kc)):=fun wq hb=>by have e:∀x,wq.cell? ⟨g,x,none⟩=wo.cell? ⟨g,x,none⟩:=fun x=>hb.cell (p:=⟨g,x,none⟩) (show g<gb by omega);rw[e,e,e,e];exact⟨hN.c0,hN.c1,hN.c2,hN.c3⟩
      clear hN hm;obtain⟨ze,I4⟩:∃z,Hid (aW m=z):=⟨_,hid rfl⟩;obtain⟨zb,GK⟩:∃z,Hid (aQ m=z):=⟨_,hid rfl⟩;have qQ:=eU m.t (.slice ka m.kids.length kc) ⟨#[59]⟩;have HS2:=eU m.t (.slice ka m.kids.length kc) ⟨#[123]⟩;rw[show ay m.t ⟨#[59]⟩=ze from I4.o]at qQ;rw[show ay m.t ⟨#[123]⟩=zb from GK.o]at HS2;have HI1:Hid (∀(w:World),Calls prog 66 #[dM m.t (.slice ka m.kids.length kc),.string ⟨#[59]⟩] w fun e w'=>e=.returned (.bool ze)/\Below w.heap.size w w'):=qQ;have HI2:Hid (∀(w:World),Calls prog 66 #[dM m.t (.slice ka m.kids.length kc),.string ⟨#[123]⟩] w fun e w'=>e=.returned (.bool zb)/\Below w.heap.size w w'):=HS2;clear qQ HS2;obtain⟨e0,e1,e2,e3⟩:=nU.o _ HH.o.below;go_wp2_with fail;refine pmb (HI1.o wy) fun w3 hb3=>?_
      have H3:Hid (BK B gb false wo l n.t.word c (.slice ha hd.length hc) (.slice ba bl.length bc) hd bl hs hcs j false w3):=HH.o.upon hb3 oo oo;clear hb3 e0 e1 e2 e3;have hs3:=H3.o.own.lt;obtain⟨e0,e1,e2,e3⟩:=nU.o _ H3.o.below;go_wp2_with fail;refine pmb (HI2.o w3) fun w5 hb5=>?_;have H5:Hid (BK B gb false wo l n.t.word c (.slice ha hd.length hc) (.slice ba bl.length bc) hd bl hs hcs j false w5):=H3.o.upon hb5 oo oo;clear hb5 e0 e1 e2 e3 HI1 HI2;have hs5:=H5.o.own.lt;obtain⟨e0,e1,e2,e3⟩:=nU.o _ H5.o.below;have TV:Hid (Sl (fun b=>b<B) w5 (.slice ka m.kids.length kc) m.kids):=HKX.o.below H5.o.below oo;obtain⟨q0,q1,q2,q3,q4⟩:=H5.o.own.cs;have z3:=H5.o.own.fz 3;have z4:=H5.o.own.fz 4;cases ze
      .cases zb
       .have HST:Hid (ni false m=false):=by show(_||_)=_;rw[I4.o,GK.o];rfl
        have xq:(fun wq:World=>wq.cell? ⟨g,o+j*4,none⟩=some (.int .i64 m.t.kind)/\wq.cell? ⟨g,o+j*4+1,none⟩=some (.string m.t.word)/\wq.cell? ⟨g,o+j*4+2,none⟩=some (.string m.t.unit)/\wq.cell? ⟨g,o+j*4+3,none⟩=some (.slice ka m.kids.length kc)) w5.drew:=⟨e0,e1,e2,e3⟩;have Ou:(fun wq:World=>wq.cell? ⟨g,o+j*4,none⟩=some (.int .i64 m.t.kind)/\wq.cell? ⟨g,o+j*4+1,none⟩=some (.string m.t.word)/\wq.cell? ⟨g,o+j*4+2,none⟩=some (.string m.t.unit)/\wq.cell? ⟨g,o+j*4+3,none⟩=some (.slice ka m.kids.length kc)) (w5.drew.alloc (.cells #[.int .i64 m.t.kind,.string m.t.word,.string m.t.unit,.slice ka m.kids.length kc] 134)):=nU.o _ (H5.o.below.drew.alloc (by show gb<=w5.heap.size;omega) _)
        have qA:(w5.drew.alloc (.cells #[.int .i64 m.t.kind,.string m.t.word,.string m.t.unit,.slice ka m.kids.length kc] 134)).cell? ⟨gb,2,none⟩=some (.slice ha hd.length hc):=(World.cell?_of_block (w:=w5.drew) (a:=⟨gb,2,none⟩) (Below.heap_alloc _ _ _ (show gb<w5.drew.heap.size from hs5))).trans q2;clear q0 q3 q4 z3 z4;go_wp2_with fail;refine wp_region_held_drew (S:=(fun wq:World=>wq.cell? ⟨g,o+j*4,none⟩=some (.int .i64 m.t.kind)/\wq.cell? ⟨g,o+j*4+1,none⟩=some (.string m.t.word)/\wq.cell? ⟨g,o+j*4+2,none⟩=some (.string m.t.unit)/\wq.cell? ⟨g,o+j*4+3,none⟩=some (.slice ka m.kids.length kc))) (by kernel_rfl) xq (fun _=>?_);refine bY 0 rfl xq (fun _ _=>gs) ?_;refine bY 2 rfl xq (fun _ _=>gs) ?_
        refine bY 3 rfl xq (fun _ _=>gs) ?_;refine bY 4 rfl xq (fun _ _=>gs) ?_;refine bY 5 rfl xq (by intro w hSw;obtain⟨z0,z1,z2,z3⟩:=hSw;exact gs) ?_;refine wpAnyH_ready (rs:=[1,6]) (by kernel_rfl) (by simp) ?_;refine AllReadyH.cons rfl (fun K hK=>?_) (AllReadyH.cons rfl (fun K hK=>?_) AllReadyH.nil);focus
         go_simp;refine hK.o _ _ xq (fun _=>?_);clear hK K;refine jh 6 fun K hK=>?_
        rotate_left;focus
         go_simp;refine hK.o _ _ Ou (fun _=>?_);clear hK K;refine jh 1 fun K hK=>?_
        rotate_left;all_goals
         go_simp;refine hK.o _ _ (Ou) (fun _=>?_);clear hK K;refine wpAnyH_ready (rs:=[7]) (by kernel_rfl) (by simp) ?_;refine AllReadyH.cons rfl (fun K hK=>?_) AllReadyH.nil;refine fZ rfl (.tmp 69) (.tmp 74) 59 rfl (gb+1) 134 iN (.agg #[.int .i64 0,.string ⟨#[]⟩,.string ⟨#[]⟩,.slice none 0 0]) 4 64 Tryz.underlying59 HN.o.1 HN.o.2.1 HN.o.2.2.1 HN.o.2.2.2 rfl oo (.slice ha hd.length hc) hd.length hcs (by simp[Act.eval]) (H5.o.row.drew.alloc _) ⟨w5.heap.size,0,none⟩ 1 1 [.int .i64 m.t.kind,.string m.t.word,.string m.t.unit,.slice ka m.kids.length kc] (by simp[Act.eval]) rfl (GR _ _ _ _ _ _) (by simp[Value.oneCell']) (by unfold maxLen;omega) oo (by simp;omega) ?_;intro v8 w8 eH kT Ii
         have H9:Hid (BK B gb false wo l n.t.word c v8 (.slice ba bl.length bc) (hd++[m]) bl hs (hcs++[.int .i64 m.t.kind,.string m.t.word,.string m.t.unit,.slice ka m.kids.length kc]) (j+1) false (w8.setCell ⟨gb,2,none⟩ v8)):=H5.o.more oo hs5 TV.o HMT.o PL.o HST.o eH kT;have MR:∀rr,Value.ownBlock (.slice ha hd.length hc)=some rr->gb+1<=rr:=fun rr hr=>(H5.o.row.lt rr hr).1;have ed:w5.drew.heap.size=w5.heap.size:=rfl;have hb8:Below (gb+1) w5 w8:=((Below.refl _ _).drew.alloc (by show gb+1<=w5.heap.size;omega) _).grown kT (by simp;omega) MR;have WB:Hid (Below gb wo w8):=H5.o.below.trans (hb8.mono oo);have QH8:Hid (Q5 110 w8 gb (.string n.t.word) (.bool false) (.slice ha hd.length hc) (.slice ba bl.length bc) (.bool hs)):=H5.o.own.keep (hb8.block gb oo);obtain⟨va8,vc8,e8⟩:=iL eH;subst e8;have z2:=QH8.o.fz 2;have p2:=QH8.o.cs.2.2.1
         clear eH kT Ii hb8 MR;refine hK.o _ _ (nU.o _ WB.o) (fun _=>?_);clear hK K;refine bY 8 rfl (nU.o _ WB.o) (fun _ _=>gs) ?_;refine jh 9 fun K hK=>?_;go_simp;refine hK.o _ _ (nU.o _ (WB.o.setCell (p:=⟨gb,2,none⟩) nl _)) (fun _=>?_);clear hK K;refine wpAnyH_done (by kernel_rfl) ?_ _;go_wp2_with fail;go_roundg(gk-1);case measure=>omega
         case rel=>exact⟨j+1,_,_,hd++[m],bl,hs,false,_,by congr 1,rfl,oo,oo,oo,by simp,H9.o⟩
       .have H9:Hid (BK B gb false wo l n.t.word c (.slice ha hd.length hc) (.slice ka m.kids.length kc) hd m.kids true hcs (j+1) true ((w5.setCell ⟨gb,3,none⟩ (.slice ka m.kids.length kc)).setCell ⟨gb,4,none⟩ (.bool true))):=H5.o.closed oo TV.o PL.o GK.o;go_wp2_with fail;go_roundg(gk-1);case measure=>omega
        case rel=>exact⟨j+1,_,_,hd,m.kids,true,true,hcs,by congr 1,rfl,oo,oo,oo,fun _=>by omega,H9.o⟩
      .have Hzf:Hid (zb=false):=by show _=_;rw[<-GK.o];exact IZ I4.o
       have hzf:=Hzf.o;subst hzf;have HST:Hid (ni false m=false):=by show(_||_)=_;rw[GK.o];rfl
       have xq:(fun wq:World=>wq.cell? ⟨g,o+j*4,none⟩=some (.int .i64 m.t.kind)/\wq.cell? ⟨g,o+j*4+1,none⟩=some (.string m.t.word)/\wq.cell? ⟨g,o+j*4+2,none⟩=some (.string m.t.unit)/\wq.cell? ⟨g,o+j*4+3,none⟩=some (.slice ka m.kids.length kc)) w5.drew:=⟨e0,e1,e2,e3⟩;have Ou:(fun wq:World=>wq.cell? ⟨g,o+j*4,none⟩=some (.int .i64 m.t.kind)/\wq.cell? ⟨g,o+j*4+1,none⟩=some (.string m.t.word)/\wq.cell? ⟨g,o+j*4+2,none⟩=some (.string m.t.unit)/\wq.cell? ⟨g,o+j*4+3,none⟩=some (.slice ka m.kids.length kc)) (w5.drew.alloc (.cells #[.int .i64 m.t.kind,.string m.t.word,.string m.t.unit,.slice ka m.kids.length kc] 134)):=nU.o _ (H5.o.below.drew.alloc (by show gb<=w5.heap.size;omega) _)
       have qA:(w5.drew.alloc (.cells #[.int .i64 m.t.kind,.string m.t.word,.string m.t.unit,.slice ka m.kids.length kc] 134)).cell? ⟨gb,2,none⟩=some (.slice ha hd.length hc):=(World.cell?_of_block (w:=w5.drew) (a:=⟨gb,2,none⟩) (Below.heap_alloc _ _ _ (show gb<w5.drew.heap.size from hs5))).trans q2;clear q0 q3 q4 z3 z4;go_wp2_with fail;refine wp_region_held_drew (S:=(fun wq:World=>wq.cell? ⟨g,o+j*4,none⟩=some (.int .i64 m.t.kind)/\wq.cell? ⟨g,o+j*4+1,none⟩=some (.string m.t.word)/\wq.cell? ⟨g,o+j*4+2,none⟩=some (.string m.t.unit)/\wq.cell? ⟨g,o+j*4+3,none⟩=some (.slice ka m.kids.length kc))) (by kernel_rfl) xq (fun _=>?_);refine bY 0 rfl xq (fun _ _=>gs) ?_;refine bY 2 rfl xq (fun _ _=>gs) ?_
       refine bY 3 rfl xq (fun _ _=>gs) ?_;refine bY 4 rfl xq (fun _ _=>gs) ?_;refine bY 5 rfl xq (by intro w hSw;obtain⟨z0,z1,z2,z3⟩:=hSw;exact gs) ?_;refine wpAnyH_ready (rs:=[1,6]) (by kernel_rfl) (by simp) ?_;refine AllReadyH.cons rfl (fun K hK=>?_) (AllReadyH.cons rfl (fun K hK=>?_) AllReadyH.nil);focus
        go_simp;refine hK.o _ _ xq (fun _=>?_);clear hK K;refine jh 6 fun K hK=>?_
       rotate_left;focus
        go_simp;refine hK.o _ _ Ou (fun _=>?_);clear hK K;refine jh 1 fun K hK=>?_
       rotate_left;all_goals
        go_simp;refine hK.o _ _ (Ou) (fun _=>?_);clear hK K;refine wpAnyH_ready (rs:=[7]) (by kernel_rfl) (by simp) ?_;refine AllReadyH.cons rfl (fun K hK=>?_) AllReadyH.nil;refine fZ rfl (.tmp 69) (.tmp 74) 59 rfl (gb+1) 134 iN (.agg #[.int .i64 0,.string ⟨#[]⟩,.string ⟨#[]⟩,.slice none 0 0]) 4 64 Tryz.underlying59 HN.o.1 HN.o.2.1 HN.o.2.2.1 HN.o.2.2.2 rfl oo (.slice ha hd.length hc) hd.length hcs (by simp[Act.eval]) (H5.o.row.drew.alloc _) ⟨w5.heap.size,0,none⟩ 1 1 [.int .i64 m.t.kind,.string m.t.word,.string m.t.unit,.slice ka m.kids.length kc] (by simp[Act.eval]) rfl (GR _ _ _ _ _ _) (by simp[Value.oneCell']) (by unfold maxLen;omega) oo (by simp;omega) ?_;intro v8 w8 eH kT Ii
        have H9:Hid (BK B gb false wo l n.t.word c v8 (.slice ba bl.length bc) (hd++[m]) bl hs (hcs++[.int .i64 m.t.kind,.string m.t.word,.string m.t.unit,.slice ka m.kids.length kc]) (j+1) false (w8.setCell ⟨gb,2,none⟩ v8)):=H5.o.more oo hs5 TV.o HMT.o PL.o HST.o eH kT;have MR:∀rr,Value.ownBlock (.slice ha hd.length hc)=some rr->gb+1<=rr:=fun rr hr=>(H5.o.row.lt rr hr).1;have ed:w5.drew.heap.size=w5.heap.size:=rfl;have hb8:Below (gb+1) w5 w8:=((Below.refl _ _).drew.alloc (by show gb+1<=w5.heap.size;omega) _).grown kT (by simp;omega) MR;have WB:Hid (Below gb wo w8):=H5.o.below.trans (hb8.mono oo);have QH8:Hid (Q5 110 w8 gb (.string n.t.word) (.bool false) (.slice ha hd.length hc) (.slice ba bl.length bc) (.bool hs)):=H5.o.own.keep (hb8.block gb oo);obtain⟨va8,vc8,e8⟩:=iL eH;subst e8;have z2:=QH8.o.fz 2;have p2:=QH8.o.cs.2.2.1
        clear eH kT Ii hb8 MR;refine hK.o _ _ (nU.o _ WB.o) (fun _=>?_);clear hK K;refine bY 8 rfl (nU.o _ WB.o) (fun _ _=>gs) ?_;refine jh 9 fun K hK=>?_;go_simp;refine hK.o _ _ (nU.o _ (WB.o.setCell (p:=⟨gb,2,none⟩) nl _)) (fun _=>?_);clear hK K;refine wpAnyH_done (by kernel_rfl) ?_ _;go_wp2_with fail;go_roundg(gk-1);case measure=>omega
        case rel=>exact⟨j+1,_,_,hd++[m],bl,hs,false,_,by congr 1,rfl,oo,oo,oo,by simp,H9.o⟩
     .have hij2:i<j:=by
       rcases Bool.eq_false_or_eq_true dn with e|e
       .exact hdn e
       .have:¬j<l.length:=fun h=>hex ⟨e,h⟩;omega
      obtain⟨D1,D2,D3,D4⟩:=HH.o.rd.done (fun e=>by have:¬j<l.length:=fun h=>hex ⟨e,h⟩;omega);have ZB:Hid (rules sh l=acc++(TU false n.t.word hd (dw c.2.1)++rules sh (l.drop j))):=by show _=_;rw[qU.o,D1,D4]
      have HHS:Hid (hs=(dw c.2.1).isSome):=D2;have HBL:Hid (∀b,dw c.2.1=some b->bl=b):=D3;have BW:Hid (Below w.heap.size w wy):=HR.o.below.trans (HH.o.below.mono hsr);have hbl:∀k,Value.ownBlock (.slice ua acc.length uc)=some k->k<gb:=fun k hk=>by have:=(HR.o.row.lt k hk).2;have:=RF.o;omega
      have R5:Hid (wy.ownsRow w.heap.size 110 5 (.slice ua acc.length uc) acc.length cs):=aX HR.o.row fun k hk=>HH.o.below.block k (hbl k hk);have CT5:Hid (jv GI (oO 0 wy (.slice ua acc.length uc)) wy acc cs):=HR.o.cat.keep GI.fair (fun k hk=>⟨hk.1,by have:=hk.2.1;omega,hk.2.2⟩) (fun k hk=>HH.o.below.block k (by have:=hk.2.1;have:=RF.o;omega));have hlen:acc.length<=i:=HR.o.ln;obtain⟨q0,q1,q2,q3,q4⟩:=HH.o.own.cs;have hcond:(j<l.length/\dn=true)\/l.length<=j:=by
       by_cases hq:j<l.length
       .rcases Bool.eq_false_or_eq_true dn with e|e
        .exact .inl ⟨hq,e⟩
        .exact absurd ⟨e,hq⟩ hex
       .exact .inr oo
      clear hex D1 D2 D3 D4;go_upto_region 11 with fail
      go_cut [57] (fun s57 wq=>s57=.bool false/\wq=wy);case first=>
       rcases hcond with⟨h2,rfl⟩|h2
       .have h3:(j:Int)<(l.length:Int):=oo;go_wp2_with fail;go_meet
        exact⟨rfl,rfl⟩
       .have h3:(l.length:Int)<=(j:Int):=oo;go_wp2_with fail;go_meet
        exact⟨rfl,rfl⟩
      case rest=>
      obtain⟨rfl,hwc⟩:=hcut;obtain rfl:=hwc.symm;cases hs
      .have HRR:Hid (TU false n.t.word hd (dw c.2.1)=[]):=by show _=_;unfold TU;rw[<-HHS.o];rfl
       have AX:Hid (RrI B sh w l (.slice ua acc.length uc) acc cs j wy):=⟨R5.o,CT5.o,BW.o,by rw[ZB.o,HRR.o];rfl,oo⟩;go_wp2_with fail;go_roundg(l.length-j);case measure=>omega
       case rel=>exact⟨_,acc,cs,j,rfl,rfl,oo,hal,AX.o⟩
      .have HRR:Hid (TU false n.t.word hd (dw c.2.1)=[⟨none,hd,dw c.2.1⟩]):=by show _=_;unfold TU;rw[<-HHS.o];rfl
       have HHD:Hid (Sl (fun b=>b<B\/(gb+1<=b/\b<wy.heap.size)) wy (.slice ha hd.length hc) hd):=HH.o.head hhl;have HBS:Hid (Sl (fun b=>b<B) wy (.slice ba bl.length bc) bl):=HH.o.bs;have Gz:Hid ((wy.alloc (.cells #[.string n.t.word,.bool false,.slice ha hd.length hc,.slice ba bl.length bc,.bool true] 110)).ownsRow w.heap.size 110 5 (.slice ua acc.length uc) acc.length cs):=R5.o.alloc _
       go_wp2_with(at_builtin;go_must(refine wpList_append_own_at _ rfl _ _ 63 rfl w.heap.size 110 iT (.agg #[.string ⟨#[]⟩,.bool false,.slice none 0 0,.slice none 0 0,.bool false]) 5 80 Tryz.underlying63 HI.o.1 HI.o.2.1 HI.o.2.2.1 HI.o.2.2.2 rfl oo (.slice ua acc.length uc) acc.length cs rfl Gz.o ⟨wy.heap.size,0,none⟩ 1 1 [.string n.t.word,.bool false,.slice ha hd.length hc,.slice ba bl.length bc,.bool true] rfl rfl (aaE _ _ _ _ _ _ _) (by simp[Value.oneCell']) (by unfold maxLen;omega) oo (by simp;omega) ?_));intro v6 w6 hown6 jO _ zH;have hlo:∀rr,Value.ownBlock (.slice ua acc.length uc)=some rr->w.heap.size<=rr:=fun rr hr=>(Gz.o.lt rr hr).1;have hb6:Below w.heap.size wy w6:=((Below.refl _ _).alloc oo _).grown jO (by simp;omega) hlo;have hS:∀k,oO 0 wy (.slice ua acc.length uc) k->oO 0 w6 v6 k:=by
        rintro k ⟨h3,h4,h5⟩;refine⟨h3,Nat.lt_of_lt_of_le h4 hb6.size,?_⟩;rcases zH with e|e
        .rw[e];exact h5
        .rw[e];intro e2;simp at e2;omega
       have hw:∀k,oO 0 wy (.slice ua acc.length uc) k->w6.heap[k]?=wy.heap[k]?:=fun k hk=>(jO.block k (by have:=hk.2.1;simp;omega) hk.2.2).trans (Below.heap_alloc _ _ _ hk.2.1);have hbB:∀k,k<B->oO 0 wy (.slice ua acc.length uc) k:=fun k hk=>⟨Nat.zero_le _,oo,fun e=>by have:=(Gz.o.lt k e.symm).1;omega⟩;have hbH:∀k,(k<B\/(gb+1<=k/\k<wy.heap.size))->oO 0 wy (.slice ua acc.length uc) k:=by
        rintro k (hk|hk)
        .exact hbB k hk
        .exact⟨Nat.zero_le _,hk.2,fun e=>by have:=hbl k e.symm;omega⟩
       have AX:Hid (RrI B sh w l v6 (acc++[⟨none,hd,dw c.2.1⟩]) (cs++[.string n.t.word,.bool false,.slice ha hd.length hc,.slice ba bl.length bc,.bool true]) j w6):=⟨by rw[List.length_append];exact hown6,jv.snoc _ _ (CT5.o.keep GI.fair hS hw) _ _ ⟨n.t.word,_,_,bl,by rw[<-HHS.o];rfl,HHD.o.keep (fun k hk=>hS k (hbH k hk)) (fun k hk=>hw k (hbH k hk)),HBS.o.keep (fun k hk=>hS k (hbB k hk)) (fun k hk=>hw k (hbB k hk)),HBL.o,(fun x hx=>by cases hx),HAT.o⟩,BW.o.trans hb6,by rw[ZB.o,HRR.o,List.append_assoc],by simp;omega⟩
       have hl7:(acc++[(⟨none,hd,dw c.2.1⟩:Rule)]).length<=600:=by simp;omega
       clear hown6 jO zH hlo hb6 hS hw hbB hbH;go_wp2_with fail;go_roundg(l.length-j);case measure=>omega
       case rel=>exact⟨_,_,_,j,rfl,rfl,oo,hl7,AX.o⟩
   .rw[hz]at Q2;obtain⟨c,Hc⟩:∃c,Hid (bM (ni true) (l.drop (i+1))=c):=⟨_,hid rfl⟩;have qU:Hid (rules sh l=acc++(TU true n.t.word c.1 (dw c.2.1)++rules sh c.2.2)):=by show _=_;rw[HR.o.eq,Hdr.o,MQ Hb.o Y1.o true hz c Hc.o]
    have hc1:c.1.length<=600:=by have:=BJ (ni true) (l.drop (i+1));rw[Hc.o]at this;simp only[List.length_drop]at this;omega
    have H0:Hid (BK B gb true wo l n.t.word c (.slice none 0 0) (.slice none 0 0) [] [] false [] (i+1) false w2):=⟨Q2.o,World.ownsRow_nil _ _ _ _,rfl,Sl.nil _ _,X2.o,rfl,by rw[<-Hc.o,show ni true=ni true from rfl];simp⟩;have aen:=Q2.o.lt;obtain⟨q0,q1,q2,q3,q4⟩:=Q2.o.cs;clear hz;go_wp2_with fail;clear q0 q1 q2 q3 q4;go_loopg[6,9] l.length (fun gg v6 v9 wy=>∃(j:Nat) (hv bv:Value) (hd bl:List Nd) (hs dn:Bool) (hcs:List Value),v6=.int .i64 (j:Int)/\v9=.bool dn/\l.length<=j+gg/\j<=l.length/\i<=j/\(dn=true->i<j)/\Aside (BK B gb true wo l n.t.word c hv bv hd bl hs hcs j dn wy));case atStart=>exact⟨(i+1),_,_,[],[],false,false,[],by first|rfl|congr 1,rfl,oo,oo,oo,by simp,H0.o⟩
    case round=>
     obtain⟨wy,rfl⟩:∃q,q=wr:=⟨_,rfl⟩;obtain⟨j,hv,bv,hd,bl,hs,dn,hcs,rfl,rfl,hj,hjl,hij,hdn,hA⟩:=hrel;have HH:Hid (BK B gb true wo l n.t.word c hv bv hd bl hs hcs j dn wy):=hA.o;clear hA H0;obtain⟨ha,hc,rfl⟩:=iL HH.o.row;obtain⟨ba,bc,rfl⟩:=HH.o.bs.form;have hgy:=HH.o.own.lt;have hhl:hd.length<=600:=Nat.le_trans HH.o.rd.len hc1;have hsy:=HH.o.below.size;by_cases hex:dn=false/\j<l.length
     .obtain⟨rfl,hjlt⟩:=hex;have h2:(j:Int)<(l.length:Int):=oo;obtain⟨kv,hN⟩:=HL.o.node (i:=j) hjlt;obtain⟨m,hm⟩:∃m,m=l[j]:=⟨_,rfl⟩;have PL:Hid (l.drop j=m::l.drop (j+1)):=by show _=_;rw[hm];exact List.drop_eq_getElem_cons hjlt
      rw[<-hm]at hN;obtain⟨ka,kc,rfl⟩:=hN.k.form;have HKX:Hid (Sl (fun b=>b<B) wo (.slice ka m.kids.length kc) m.kids):=hN.k;have HMT:Hid (cZ m.t):=hN.ok;have nU:Hid (∀wq,Below gb wo wq->wq.cell? ⟨g,o+j*4,none⟩=some (.int .i64 m.t.kind)/\wq.cell? ⟨g,o+j*4+1,none⟩=some (.string m.t.word)/\wq.cell? ⟨g,o+j*4+2,none⟩=some (.string m.t.unit)/\wq.cell? ⟨g,o+j*4+3,none⟩=some (.slice ka m.kids.length kc)):=fun wq hb=>by have e:∀x,wq.cell? ⟨g,x,none⟩=wo.cell? ⟨g,x,none⟩:=fun x=>hb.cell (p:=⟨g,x,none⟩) (show g<gb by omega);rw[e,e,e,e];exact⟨hN.c0,hN.c1,hN.c2,hN.c3⟩
      clear hN hm;obtain⟨ze,I4⟩:∃z,Hid (aW m=z):=⟨_,hid rfl⟩;obtain⟨zb,GK⟩:∃z,Hid (aQ m=z):=⟨_,hid rfl⟩;have qQ:=eU m.t (.slice ka m.kids.length kc) ⟨#[59]⟩;have HS2:=eU m.t (.slice ka m.kids.length kc) ⟨#[123]⟩;rw[show ay m.t ⟨#[59]⟩=ze from I4.o]at qQ;rw[show ay m.t ⟨#[123]⟩=zb from GK.o]at HS2;have HI1:Hid (∀(w:World),Calls prog 66 #[dM m.t (.slice ka m.kids.length kc),.string ⟨#[59]⟩] w fun e w'=>e=.returned (.bool ze)/\Below w.heap.size w w'):=qQ;have HI2:Hid (∀(w:World),Calls prog 66 #[dM m.t (.slice ka m.kids.length kc),.string ⟨#[123]⟩] w fun e w'=>e=.returned (.bool zb)/\Below w.heap.size w w'):=HS2;clear qQ HS2;obtain⟨e0,e1,e2,e3⟩:=nU.o _ HH.o.below;go_wp2_with fail;refine pmb (HI1.o wy) fun w3 hb3=>?_
      have H3:Hid (BK B gb true wo l n.t.word c (.slice ha hd.length hc) (.slice ba bl.length bc) hd bl hs hcs j false w3):=HH.o.upon hb3 oo oo;clear hb3 e0 e1 e2 e3;have hs3:=H3.o.own.lt;obtain⟨e0,e1,e2,e3⟩:=nU.o _ H3.o.below;go_wp2_with fail;refine pmb (HI2.o w3) fun w5 hb5=>?_;have H5:Hid (BK B gb true wo l n.t.word c (.slice ha hd.length hc) (.slice ba bl.length bc) hd bl hs hcs j false w5):=H3.o.upon hb5 oo oo;clear hb5 e0 e1 e2 e3 HI1 HI2;have hs5:=H5.o.own.lt;obtain⟨e0,e1,e2,e3⟩:=nU.o _ H5.o.below;have TV:Hid (Sl (fun b=>b<B) w5 (.slice ka m.kids.length kc) m.kids):=HKX.o.below H5.o.below oo;obtain⟨q0,q1,q2,q3,q4⟩:=H5.o.own.cs;have z3:=H5.o.own.fz 3;have z4:=H5.o.own.fz 4;cases ze
      .cases zb
       .have HST:Hid (ni true m=false):=by show(_||_)=_;rw[I4.o,GK.o];rfl
        have xq:(fun wq:World=>wq.cell? ⟨g,o+j*4,none⟩=some (.int .i64 m.t.kind)/\wq.cell? ⟨g,o+j*4+1,none⟩=some (.string m.t.word)/\wq.cell? ⟨g,o+j*4+2,none⟩=some (.string m.t.unit)/\wq.cell? ⟨g,o+j*4+3,none⟩=some (.slice ka m.kids.length kc)) w5.drew:=⟨e0,e1,e2,e3⟩;have Ou:(fun wq:World=>wq.cell? ⟨g,o+j*4,none⟩=some (.int .i64 m.t.kind)/\wq.cell? ⟨g,o+j*4+1,none⟩=some (.string m.t.word)/\wq.cell? ⟨g,o+j*4+2,none⟩=some (.string m.t.unit)/\wq.cell? ⟨g,o+j*4+3,none⟩=some (.slice ka m.kids.length kc)) (w5.drew.alloc (.cells #[.int .i64 m.t.kind,.string m.t.word,.string m.t.unit,.slice ka m.kids.length kc] 134)):=nU.o _ (H5.o.below.drew.alloc (by show gb<=w5.heap.size;omega) _)
        have qA:(w5.drew.alloc (.cells #[.int .i64 m.t.kind,.string m.t.word,.string m.t.unit,.slice ka m.kids.length kc] 134)).cell? ⟨gb,2,none⟩=some (.slice ha hd.length hc):=(World.cell?_of_block (w:=w5.drew) (a:=⟨gb,2,none⟩) (Below.heap_alloc _ _ _ (show gb<w5.drew.heap.size from hs5))).trans q2;clear q0 q3 q4 z3 z4;go_wp2_with fail;refine wp_region_held_drew (S:=(fun wq:World=>wq.cell? ⟨g,o+j*4,none⟩=some (.int .i64 m.t.kind)/\wq.cell? ⟨g,o+j*4+1,none⟩=some (.string m.t.word)/\wq.cell? ⟨g,o+j*4+2,none⟩=some (.string m.t.unit)/\wq.cell? ⟨g,o+j*4+3,none⟩=some (.slice ka m.kids.length kc))) (by kernel_rfl) xq (fun _=>?_);refine bY 0 rfl xq (fun _ _=>gs) ?_;refine bY 2 rfl xq (fun _ _=>gs) ?_
        refine bY 3 rfl xq (fun _ _=>gs) ?_;refine bY 4 rfl xq (fun _ _=>gs) ?_;refine bY 5 rfl xq (by intro w hSw;obtain⟨z0,z1,z2,z3⟩:=hSw;exact gs) ?_;refine wpAnyH_ready (rs:=[1,6]) (by kernel_rfl) (by simp) ?_;refine AllReadyH.cons rfl (fun K hK=>?_) (AllReadyH.cons rfl (fun K hK=>?_) AllReadyH.nil);focus
         go_simp;refine hK.o _ _ xq (fun _=>?_);clear hK K;refine jh 6 fun K hK=>?_
        rotate_left;focus
         go_simp;refine hK.o _ _ Ou (fun _=>?_);clear hK K;refine jh 1 fun K hK=>?_
        rotate_left;all_goals
         go_simp;refine hK.o _ _ (Ou) (fun _=>?_);clear hK K;refine wpAnyH_ready (rs:=[7]) (by kernel_rfl) (by simp) ?_;refine AllReadyH.cons rfl (fun K hK=>?_) AllReadyH.nil;refine fZ rfl (.tmp 69) (.tmp 74) 59 rfl (gb+1) 134 iN (.agg #[.int .i64 0,.string ⟨#[]⟩,.string ⟨#[]⟩,.slice none 0 0]) 4 64 Tryz.underlying59 HN.o.1 HN.o.2.1 HN.o.2.2.1 HN.o.2.2.2 rfl oo (.slice ha hd.length hc) hd.length hcs (by simp[Act.eval]) (H5.o.row.drew.alloc _) ⟨w5.heap.size,0,none⟩ 1 1 [.int .i64 m.t.kind,.string m.t.word,.string m.t.unit,.slice ka m.kids.length kc] (by simp[Act.eval]) rfl (GR _ _ _ _ _ _) (by simp[Value.oneCell']) (by unfold maxLen;omega) oo (by simp;omega) ?_;intro v8 w8 eH kT Ii
         have H9:Hid (BK B gb true wo l n.t.word c v8 (.slice ba bl.length bc) (hd++[m]) bl hs (hcs++[.int .i64 m.t.kind,.string m.t.word,.string m.t.unit,.slice ka m.kids.length kc]) (j+1) false (w8.setCell ⟨gb,2,none⟩ v8)):=H5.o.more oo hs5 TV.o HMT.o PL.o HST.o eH kT;have MR:∀rr,Value.ownBlock (.slice ha hd.length hc)=some rr->gb+1<=rr:=fun rr hr=>(H5.o.row.lt rr hr).1;have ed:w5.drew.heap.size=w5.heap.size:=rfl;have hb8:Below (gb+1) w5 w8:=((Below.refl _ _).drew.alloc (by show gb+1<=w5.heap.size;omega) _).grown kT (by simp;omega) MR;have WB:Hid (Below gb wo w8):=H5.o.below.trans (hb8.mono oo);have QH8:Hid (Q5 110 w8 gb (.string n.t.word) (.bool true) (.slice ha hd.length hc) (.slice ba bl.length bc) (.bool hs)):=H5.o.own.keep (hb8.block gb oo);obtain⟨va8,vc8,e8⟩:=iL eH;subst e8;have z2:=QH8.o.fz 2;have p2:=QH8.o.cs.2.2.1
         clear eH kT Ii hb8 MR;refine hK.o _ _ (nU.o _ WB.o) (fun _=>?_);clear hK K;refine bY 8 rfl (nU.o _ WB.o) (fun _ _=>gs) ?_;refine jh 9 fun K hK=>?_;go_simp;refine hK.o _ _ (nU.o _ (WB.o.setCell (p:=⟨gb,2,none⟩) nl _)) (fun _=>?_);clear hK K;refine wpAnyH_done (by kernel_rfl) ?_ _;go_wp2_with fail;go_roundg(gk-1);case measure=>omega
         case rel=>exact⟨j+1,_,_,hd++[m],bl,hs,false,_,by congr 1,rfl,oo,oo,oo,by simp,H9.o⟩
       .have H9:Hid (BK B gb true wo l n.t.word c (.slice ha hd.length hc) (.slice ka m.kids.length kc) hd m.kids true hcs (j+1) true ((w5.setCell ⟨gb,3,none⟩ (.slice ka m.kids.length kc)).setCell ⟨gb,4,none⟩ (.bool true))):=H5.o.closed oo TV.o PL.o GK.o;go_wp2_with fail;go_roundg(gk-1);case measure=>omega
        case rel=>exact⟨j+1,_,_,hd,m.kids,true,true,hcs,by congr 1,rfl,oo,oo,oo,fun _=>by omega,H9.o⟩
      .have H9:Hid (BK B gb true wo l n.t.word c (.slice ha hd.length hc) (.slice ba bl.length bc) hd bl hs hcs (j+1) true w5):=⟨H5.o.own,H5.o.row,H5.o.kc,H5.o.bs,H5.o.below,H5.o.rd.semi PL.o I4.o⟩;go_wp2_with fail;go_roundg(gk-1);case measure=>omega
       case rel=>exact⟨j+1,_,_,hd,bl,hs,true,hcs,by congr 1,rfl,oo,oo,oo,fun _=>by omega,H9.o⟩
     .have hij2:i<j:=by
       rcases Bool.eq_false_or_eq_true dn with e|e
       .exact hdn e
       .have:¬j<l.length:=fun h=>hex ⟨e,h⟩;omega
      obtain⟨D1,D2,D3,D4⟩:=HH.o.rd.done (fun e=>by have:¬j<l.length:=fun h=>hex ⟨e,h⟩;omega);have ZB:Hid (rules sh l=acc++(TU true n.t.word hd (dw c.2.1)++rules sh (l.drop j))):=by show _=_;rw[qU.o,D1,D4]
      have HHS:Hid (hs=(dw c.2.1).isSome):=D2;have HBL:Hid (∀b,dw c.2.1=some b->bl=b):=D3;have BW:Hid (Below w.heap.size w wy):=HR.o.below.trans (HH.o.below.mono hsr);have hbl:∀k,Value.ownBlock (.slice ua acc.length uc)=some k->k<gb:=fun k hk=>by have:=(HR.o.row.lt k hk).2;have:=RF.o;omega
      have R5:Hid (wy.ownsRow w.heap.size 110 5 (.slice ua acc.length uc) acc.length cs):=aX HR.o.row fun k hk=>HH.o.below.block k (hbl k hk);have CT5:Hid (jv GI (oO 0 wy (.slice ua acc.length uc)) wy acc cs):=HR.o.cat.keep GI.fair (fun k hk=>⟨hk.1,by have:=hk.2.1;omega,hk.2.2⟩) (fun k hk=>HH.o.below.block k (by have:=hk.2.1;have:=RF.o;omega));have hlen:acc.length<=i:=HR.o.ln;obtain⟨q0,q1,q2,q3,q4⟩:=HH.o.own.cs;have hcond:(j<l.length/\dn=true)\/l.length<=j:=by
       by_cases hq:j<l.length
       .rcases Bool.eq_false_or_eq_true dn with e|e
        .exact .inl ⟨hq,e⟩
        .exact absurd ⟨e,hq⟩ hex
       .exact .inr oo
      clear hex D1 D2 D3 D4;go_upto_region 11 with fail
      go_cut [57] (fun s57 wq=>s57=.bool false/\wq=wy);case first=>
       rcases hcond with⟨h2,rfl⟩|h2
       .have h3:(j:Int)<(l.length:Int):=oo;go_wp2_with fail;go_meet
        exact⟨rfl,rfl⟩
       .have h3:(l.length:Int)<=(j:Int):=oo;go_wp2_with fail;go_meet
        exact⟨rfl,rfl⟩
      case rest=>
      obtain⟨rfl,hwc⟩:=hcut;obtain rfl:=hwc.symm;have HRR:Hid (TU true n.t.word hd (dw c.2.1)=[⟨some n.t.word,hd,dw c.2.1⟩]):=by show _=_;unfold TU;rw[Bool.true_or];rfl
      have HHD:Hid (Sl (fun b=>b<B\/(gb+1<=b/\b<wy.heap.size)) wy (.slice ha hd.length hc) hd):=HH.o.head hhl;have HBS:Hid (Sl (fun b=>b<B) wy (.slice ba bl.length bc) bl):=HH.o.bs;have Gz:Hid ((wy.alloc (.cells #[.string n.t.word,.bool true,.slice ha hd.length hc,.slice ba bl.length bc,.bool hs] 110)).ownsRow w.heap.size 110 5 (.slice ua acc.length uc) acc.length cs):=R5.o.alloc _
      go_wp2_with(at_builtin;go_must(refine wpList_append_own_at _ rfl _ _ 63 rfl w.heap.size 110 iT (.agg #[.string ⟨#[]⟩,.bool false,.slice none 0 0,.slice none 0 0,.bool false]) 5 80 Tryz.underlying63 HI.o.1 HI.o.2.1 HI.o.2.2.1 HI.o.2.2.2 rfl oo (.slice ua acc.length uc) acc.length cs rfl Gz.o ⟨wy.heap.size,0,none⟩ 1 1 [.string n.t.word,.bool true,.slice ha hd.length hc,.slice ba bl.length bc,.bool hs] rfl rfl (aaE _ _ _ _ _ _ _) (by simp[Value.oneCell']) (by unfold maxLen;omega) oo (by simp;omega) ?_));intro v6 w6 hown6 jO _ zH;have hlo:∀rr,Value.ownBlock (.slice ua acc.length uc)=some rr->w.heap.size<=rr:=fun rr hr=>(Gz.o.lt rr hr).1;have hb6:Below w.heap.size wy w6:=((Below.refl _ _).alloc oo _).grown jO (by simp;omega) hlo;have hS:∀k,oO 0 wy (.slice ua acc.length uc) k->oO 0 w6 v6 k:=by
       rintro k ⟨h3,h4,h5⟩;refine⟨h3,Nat.lt_of_lt_of_le h4 hb6.size,?_⟩;rcases zH with e|e
       .rw[e];exact h5
       .rw[e];intro e2;simp at e2;omega
      have hw:∀k,oO 0 wy (.slice ua acc.length uc) k->w6.heap[k]?=wy.heap[k]?:=fun k hk=>(jO.block k (by have:=hk.2.1;simp;omega) hk.2.2).trans (Below.heap_alloc _ _ _ hk.2.1);have hbB:∀k,k<B->oO 0 wy (.slice ua acc.length uc) k:=fun k hk=>⟨Nat.zero_le _,oo,fun e=>by have:=(Gz.o.lt k e.symm).1;omega⟩;have hbH:∀k,(k<B\/(gb+1<=k/\k<wy.heap.size))->oO 0 wy (.slice ua acc.length uc) k:=by
       rintro k (hk|hk)
       .exact hbB k hk
       .exact⟨Nat.zero_le _,hk.2,fun e=>by have:=hbl k e.symm;omega⟩
      have AX:Hid (RrI B sh w l v6 (acc++[⟨some n.t.word,hd,dw c.2.1⟩]) (cs++[.string n.t.word,.bool true,.slice ha hd.length hc,.slice ba bl.length bc,.bool hs]) j w6):=⟨by rw[List.length_append];exact hown6,jv.snoc _ _ (CT5.o.keep GI.fair hS hw) _ _ ⟨n.t.word,_,_,bl,by rw[<-HHS.o];rfl,HHD.o.keep (fun k hk=>hS k (hbH k hk)) (fun k hk=>hw k (hbH k hk)),HBS.o.keep (fun k hk=>hS k (hbB k hk)) (fun k hk=>hw k (hbB k hk)),HBL.o,(fun x hx=>by cases hx;rfl),HAT.o⟩,BW.o.trans hb6,by rw[ZB.o,HRR.o,List.append_assoc],by simp;omega⟩
      have hl7:(acc++[(⟨some n.t.word,hd,dw c.2.1⟩:Rule)]).length<=600:=by simp;omega
      clear hown6 jO zH hlo hb6 hS hw hbB hbH;go_wp2_with fail;go_roundg(l.length-j);case measure=>omega
      case rel=>exact⟨_,_,_,j,rfl,rfl,oo,hl7,AX.o⟩
  .have h1:(l.length:Int)<=(i:Int):=oo;have HV:Hid (rules sh l=acc):=by show _=_;rw[HR.o.eq,List.drop_of_length_le oo];exact List.append_nil _
   go_wp2_with fail;go_ret;exact⟨_,rfl,by rw[HV.o];exact JF GI.fair GI.sized HR.o.row HR.o.cat (fun g hg=>hg.2.1) oo,HR.o.below⟩
end
end Go.Proofs.YtlliliddljkbfaaGreatDoor
