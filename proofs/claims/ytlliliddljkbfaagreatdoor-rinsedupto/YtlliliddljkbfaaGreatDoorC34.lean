import Derived.Test.YtlliliddljkbfaaGreatDoorC5
import Derived.Test.YtlliliddljkbfaaGreatDoorC22
import Derived.Test.YtlliliddljkbfaaGreatDoorC24
import Derived.Test.YtlliliddljkbfaaGreatDoorC33
namespace Go.Proofs.YtlliliddljkbfaaGreatDoor
set_option maxHeartbeats 64000000
set_option maxRecDepth 100000
open Go.Proofs.Tryz (prog)
open Go.RowKit Sp
theorem LG.aew{C:ug Simple}{S:Nat->Prop}{w:World}{l:List Step}{g o i:Nat}(h:LG (lX C) 2 S w l g o)(hi:i<l.length):S g/\∃av,w.cell? ⟨g,o+i*2,none⟩=some (.int .u8 (l[i].1:Int))/\w.cell? ⟨g,o+i*2+1,none⟩=some av/\SG C 6 S w av l[i].2:=by obtain⟨h0,cs,⟨av,rfl,hs⟩,hc⟩:=h.at l g o i hi;exact⟨h0,av,by have:=hc 0 _ rfl;rwa[Nat.add_zero]at this,hc 1 _ rfl,hs⟩
theorem LG.ccx{C:ug Simple}{S:Nat->Prop}{w:World}{l:fC}{g o i:Nat}(h:LG (CX C) 1 S w l g o)(hi:i<l.length):S g/\∃cv,w.cell? ⟨g,o+i,none⟩=some cv/\SG (lX C) 2 S w cv l[i]:=by obtain⟨h0,cs,⟨cv,rfl,hs⟩,hc⟩:=h.at l g o i hi;refine⟨h0,cv,?_,hs⟩;have:=hc 0 _ rfl;rwa[Nat.mul_one,Nat.add_zero]at this
theorem bP.form{f:Nat}{S:Nat->Prop}{w:World}{k:Nat}{nm h v:ByteArray}{l:fC}{p:Nat}{cs:List Value}(hC:bP f S w (.mk k nm h v l p) cs):∃la lc,cs=Ih k nm h v (.slice la l.length lc) p/\(l≠[]->∃f',f=f'+1/\SG (CX (bP f')) 1 S w (.slice la l.length lc) l):=by
 cases f with
 |zero=>obtain⟨rfl,a,c,e⟩:=hC;exact⟨a,c,e,fun h=>absurd rfl h⟩
 |succ f=>obtain⟨lv,e,hs⟩:=hC;obtain⟨la,lc,rfl⟩:=hs.form;exact⟨la,lc,e,fun _=>⟨f,rfl,hs⟩⟩
theorem LG.aex{f:Nat}{S:Nat->Prop}{w:World}{l:List Simple}{g o i:Nat}(h:LG (bP f) 6 S w l g o)(hi:i<l.length):S g/\∃cs,bP f S w l[i] cs/\∀j u,cs[j]?=some u->w.cell? ⟨g,o+i*6+j,none⟩=some u:=h.at l g o i hi
def ZT(f:Nat):Prop:=∀(B:Nat) (k:Nat) (nm how v:ByteArray) (l:fC) (p:Nat) (la:Option Addr) (lc:Nat) (w:World),bP f (fun b=>b<B) w (.mk k nm how v l p) (Ih k nm how v (.slice la l.length lc) p)->B<=w.heap.size->eX w->Na (.mk k nm how v l p)->zS (.mk k nm how v l p)<=549755813888->Calls prog 113 #[dZ k nm how v (.slice la l.length lc) p] w fun e w'=>e=.returned (.string (sK (.mk k nm how v l p)))/\Below w.heap.size w w'
def oG(ahead:ByteArray)(ss:fC)(i:Nat):ByteArray:=if i=0 then gU ahead ss else oZ ahead (ss.drop i)
theorem Xf(ahead:ByteArray)(ss:fC)(i:Nat)(h:ss.length<=i):oG ahead ss i=aA:=by
 unfold oG;by_cases e:i=0
 .rw[if_pos e];obtain rfl:ss=[]:=List.eq_nil_of_length_eq_zero oo;unfold gU;rfl
 .rw[if_neg e,List.drop_of_length_le h];unfold oZ;rfl
theorem ZU(ahead:ByteArray)(ss:fC)(i:Nat)(h:i<ss.length):oG ahead ss i=(if i=0 then aA else b1 44)++(ahead++(dJ ss[i]++oG ahead ss (i+1))):=by
 unfold oG;rw[if_neg (show ¬i+1=0 by omega)];by_cases e:i=0
 .rw[if_pos e,if_pos e,dP];subst e;match ss,h with
  |c::r,_=>
   conv=>lhs;unfold gU
   rfl
 .rw[if_neg e,if_neg e,List.drop_eq_getElem_cons h];conv=>lhs;unfold oZ
theorem Xg:∀(ss:fC) (i:Nat) (h:i<ss.length),uF ss->Nb ss[i]
 |c::r,0,_,hq=>by simp only[uF]at hq;exact hq.1
 |c::r,i+1,h,hq=>by simp only[uF]at hq;exact Xg r i (by simpa using h) hq.2
theorem Xh:∀(c:List Step) (i:Nat) (h:i<c.length),Uf c->Ik c[i].1/\vI c[i].2
 |(b,all)::r,0,_,hq=>by simp only[Uf]at hq;exact⟨hq.1,hq.2.1⟩
 |(b,all)::r,i+1,h,hq=>by simp only[Uf]at hq;exact Xh r i (by simpa using h) hq.2.2
theorem abS(c:List Step)(i:Nat)(h:i<c.length)(hq:Nb c):(c[i].1=0\/Ik c[i].1)/\vI c[i].2:=by
 match c,i,h,hq with
 |(b,all)::r,0,_,hq=>simp only[Nb]at hq;exact⟨.inl hq.1,hq.2.1⟩
 |(b,all)::r,i+1,h,hq=>simp only[Nb]at hq;have:=Xh r i (by simpa using h) hq.2.2;exact⟨.inr this.1,this.2⟩
theorem Xi:∀(l:List Simple) (i:Nat) (h:i<l.length),vI l->Na l[i]
 |s::r,0,_,hq=>by simp only[vI]at hq;exact hq.1
 |s::r,i+1,h,hq=>by simp only[vI]at hq;exact Xi r i (by simpa using h) hq.2
theorem aaG:∀(ss:fC) (i:Nat) (h:i<ss.length),zC ss[i]<=zL ss
 |c::r,0,_=>by simp only[zL,List.getElem_cons_zero];omega
 |c::r,i+1,h=>by have:=aaG r i (by simpa using h);simp only[zL,List.getElem_cons_succ];omega
theorem aaH:∀(c:List Step) (i:Nat) (h:i<c.length),zA c[i].2<=zC c
 |(b,all)::r,0,_=>by simp only[zC,zT,List.getElem_cons_zero];omega
 |t::r,i+1,h=>by have:=aaH r i (by simpa using h);simp only[zC,List.getElem_cons_succ];omega
theorem aaI:∀(l:List Simple) (i:Nat) (h:i<l.length),zS l[i]<=zA l
 |s::r,0,_=>by simp only[zA,List.getElem_cons_zero];omega
 |s::r,i+1,h=>by have:=aaI r i (by simpa using h);simp only[zA,List.getElem_cons_succ];omega
theorem ZV(c:List Step)(i:Nat)(h:i<c.length):dJ (c.drop i)=kX c[i].1++(lq c[i].2++dJ (c.drop (i+1))):=by
 rw[List.drop_eq_getElem_cons h];obtain⟨b,all,e⟩:∃b all,c[i]=(b,all):=⟨_,_,rfl⟩;rw[e];conv=>lhs;unfold dJ YU
 rw[ByteArray.append_assoc]
theorem ZW(l:List Simple)(i:Nat)(h:i<l.length):lq (l.drop i)=sK l[i]++lq (l.drop (i+1)):=by rw[List.drop_eq_getElem_cons h];conv=>lhs;unfold lq
theorem Xj(l:List Simple)(i:Nat)(h:l.length<=i):lq (l.drop i)=aA:=by rw[List.drop_of_length_le h];unfold lq;rfl
theorem Xk(l:List Step)(i:Nat)(h:l.length<=i):dJ (l.drop i)=aA:=by rw[List.drop_of_length_le h];unfold dJ;rfl
theorem yS(f:Nat)(B:Nat)(ss:fC)(v:Value)(ahead:ByteArray)(w:World)(h:SG (CX (bP f)) 1 (fun b=>b<B) w v ss)(hB:B<=w.heap.size)(hI:eX w)(hS:ss≠[]->ZT f)(hq:uF ss)(hz:zL ss<=549755813888)(hT:(gU ahead ss).size<=1099511627776):
  Calls prog 65 #[v,.string ahead] w fun e w'=>e=.returned (.string (gU ahead ss))/\Below w.heap.size w w':=by
 have hl:=h.len;have HG:Hid (SG (CX (bP f)) 1 (fun b=>b<B) w v ss):=h;have HIT:Hid (eX w):=hI;have HSR:Hid (ss≠[]->ZT f):=hS;have HQ:Hid (uF ss):=hq;have HZ:Hid (zL ss<=549755813888):=hz;obtain⟨T,HTe⟩:∃T,Hid (gU ahead ss=T):=⟨_,hid rfl⟩;rw[HTe.o]at hT⊢;obtain⟨a,cap,rfl⟩:=h.form;clear h hI hS hq hz;go_in;go_wp2_with fail;go_loopg[5,6] ss.length (fun gg v5 v6 wr=>∃(acc:ByteArray) (i:Nat),v5=.string acc/\v6=.int .i64 (i:Int)/\i+gg=ss.length/\Aside (T=acc++oG ahead ss i/\Below w.heap.size w wr));case atStart=>exact⟨⟨#[]⟩,0,rfl,rfl,oo,by show _=aA++_;rw[dP,<-HTe.o];rfl,Below.refl _ _⟩
 case round=>
  obtain⟨acc,i,rfl,rfl,hi,hA⟩:=hrel;obtain⟨wo,rfl⟩:∃q,q=wr:=⟨_,rfl⟩;have HC:Hid (T=acc++oG ahead ss i/\Below w.heap.size w wo):=hA.o;clear hA;have hsr:=HC.o.2.size;have hacc:acc.size<=1099511627776:=by have:=hT;rw[HC.o.1,ByteArray.size_append]at this;omega
  by_cases hlt:i<ss.length
  .have h1:(i:Int)<(ss.length:Int):=oo;obtain⟨g,o,rfl,hL,hcap⟩:=(HG.o.below (One.fair (lX.fair (bP.fair f))) HC.o.2 hB).here (by rintro rfl;simp at hlt);obtain⟨hgB,cv,hcell,ZX⟩:=hL.ccx (i:=i) hlt;have adA:g<B:=hgB;have aey:Hid (ZT f):=HSR.o (by rintro rfl;simp at hlt);obtain⟨c,hc⟩:∃c,c=ss[i]:=⟨_,rfl⟩;have HQC:Hid (Nb c):=by rw[hc];exact Xg ss i hlt HQ.o
   have II:Hid (zC c<=549755813888):=by rw[hc];exact Nat.le_trans (aaG ss i hlt) HZ.o
   have HAT:Hid (oG ahead ss i=(if i=0 then aA else b1 44)++(ahead++(dJ c++oG ahead ss (i+1)))):=by rw[hc];exact ZU ahead ss i hlt
   rw[<-hc]at ZX;have hcl:=ZX.len;obtain⟨ca,cc,rfl⟩:=ZX.form;have HSC:Hid (SG (lX (bP f)) 2 (fun b=>b<B) wo (.slice ca c.length cc) c):=ZX;have HCC:Hid (∀wq,Below wo.heap.size wo wq->wq.cell? ⟨g,o+i,none⟩=some (.slice ca c.length cc)):=fun wq hb=>by rw[hb.cell (p:=⟨g,_,none⟩) (show g<wo.heap.size by omega)];exact hcell
   clear hL hgB ZX hc hcell;have ZY:Hid (T=((if i=0 then acc else acc++⟨#[44]⟩)++ahead)++(dJ (c.drop 0)++oG ahead ss (i+1))):=by
    show _=_;rw[HC.o.1,HAT.o];by_cases e:i=0
    .rw[if_pos e,if_pos e,dP,List.drop_zero,ByteArray.append_assoc]
    .rw[if_neg e,if_neg e,List.drop_zero,ByteArray.append_assoc,ByteArray.append_assoc];rfl
   have hsm:(if i=0 then acc else acc++⟨#[44]⟩).size+ahead.size<=1099511627776:=by have:=hT;rw[ZY.o,ByteArray.size_append,ByteArray.size_append]at this;omega
   have X0:Hid (Below wo.heap.size wo wo):=Below.refl _ _;clear HAT;by_cases h0:i=0
   have hi0:(i:Int)<=0:=oo;have hi1:decide ((0:Int)<(i:Int))=false:=decide_eq_false oo;have hi2:decide (0<i)=false:=decide_eq_false oo;rw[if_pos h0]at ZY hsm;rotate_left;have hi0:(0:Int)<(i:Int):=oo;have hi1:decide ((0:Int)<(i:Int))=true:=decide_eq_true oo;have hi2:decide (0<i)=true:=decide_eq_true oo;rw[if_neg h0]at ZY hsm;have afA:acc.size+1+ahead.size<=1099511627776:=by rw[ByteArray.size_append]at hsm;exact hsm
   have afB:(acc++⟨#[44]⟩:ByteArray).size=acc.size+1:=by rw[ByteArray.size_append];rfl
   rotate_left;all_goals
    clear h0;go_wp2_with fail;go_loopg[5,7] c.length (fun gg v5 v7 wy=>∃(KO:ByteArray) (k:Nat),v5=.string KO/\v7=.int .i64 (k:Int)/\k+gg=c.length/\Aside (T=KO++(dJ (c.drop k)++oG ahead ss (i+1))/\Below wo.heap.size wo wy));case atStart=>exact⟨_,0,rfl,rfl,oo,ZY.o,X0.o⟩
    case round=>
     obtain⟨wy,rfl⟩:∃q,q=wr:=⟨_,rfl⟩;obtain⟨KO,k,rfl,rfl,hk,hA⟩:=hrel;have H2:Hid (T=KO++(dJ (c.drop k)++oG ahead ss (i+1))/\Below wo.heap.size wo wy):=hA.o;clear hA;have hsy:=H2.o.2.size;have afC:KO.size<=1099511627776:=by have:=hT;rw[H2.o.1,ByteArray.size_append]at this;omega
     have e0:=HCC.o _ H2.o.2;by_cases hlt2:k<c.length
     .have h2:(k:Int)<(c.length:Int):=oo;obtain⟨g2,o2,rfl,hL2,hcap2⟩:=(HSC.o.below (lX.fair (bP.fair f)) H2.o.2 oo).here (by rintro rfl;simp at hlt2);obtain⟨hg2,av,hb0,hb1,hSA⟩:=hL2.aew (i:=k) hlt2;have aez:g2<B:=hg2;have HQS:=abS c k hlt2 HQC.o;have HZA:=Nat.le_trans (aaH c k hlt2) II.o;have HCA:=ZV c k hlt2;generalize c[k].2=all at hSA HQS HZA HCA;generalize c[k].1=b at hb0 HQS HCA;have HQA:Hid (vI all):=HQS.2;have aeA:Hid (zA all<=549755813888):=HZA;have hal:=hSA.len;obtain⟨aa,ac,rfl⟩:=hSA.form;have aeB:Hid (SG (bP f) 6 (fun b=>b<B) wy (.slice aa all.length ac) all):=hSA
      have HB1:Hid (∀wq,Below wy.heap.size wy wq->wq.cell? ⟨g,o+i,none⟩=some (.slice (some ⟨g2,o2,none⟩) c.length cc)/\wq.cell? ⟨g2,o2+k*2+1,none⟩=some (.slice aa all.length ac)):=fun wq hb=>⟨by rw[hb.cell (p:=⟨g,_,none⟩) (show g<wy.heap.size by omega)];exact e0,by rw[hb.cell (p:=⟨g2,_,none⟩) (show g2<wy.heap.size by omega)];exact hb1⟩;have H3:Hid (T=KO++(kX b++(lq (all.drop 0)++(dJ (c.drop (k+1))++oG ahead ss (i+1))))):=by show _=_;rw[H2.o.1,HCA,List.drop_zero,ByteArray.append_assoc,ByteArray.append_assoc]
      have hcb:=HQS.1;clear hL2 hg2 hSA HQS HZA HCA hb1;have hsb:KO.size+(kX b).size<=1099511627776:=by have:=hT;rw[H3.o,ByteArray.size_append,ByteArray.size_append]at this;omega
      rcases hcb with rfl|rfl|rfl|rfl|rfl;focus
       have H4:Hid (T=KO++(lq (all.drop 0)++(dJ (c.drop (k+1))++oG ahead ss (i+1)))):=by show _=_;rw[H3.o];rw[show kX 0=aA from rfl,dP]
       have hq0:True:=trivial;clear hsb;go_wp2_with fail;go_loopg[5,8] all.length (fun gg v5 v8 wz=>∃(GL:ByteArray) (j:Nat),v5=.string GL/\v8=.int .i64 (j:Int)/\j+gg=all.length/\Aside (T=GL++(lq (all.drop j)++(dJ (c.drop (k+1))++oG ahead ss (i+1)))/\Below wy.heap.size wy wz));case atStart=>exact⟨_,0,rfl,rfl,oo,H4.o,Below.refl _ _⟩
      rotate_left;focus
       have H4:Hid (T=(KO++⟨#[32]⟩)++(lq (all.drop 0)++(dJ (c.drop (k+1))++oG ahead ss (i+1)))):=by show _=_;rw[H3.o];rw[show kX 32=⟨#[32]⟩ from rfl,ByteArray.append_assoc]
       have hq0:KO.size+1<=1099511627776:=by have e:(kX 32).size=1:=rfl;rw[e]at hsb;exact hsb
       clear hsb;go_wp2_with fail;go_loopg[5,8] all.length (fun gg v5 v8 wz=>∃(GL:ByteArray) (j:Nat),v5=.string GL/\v8=.int .i64 (j:Int)/\j+gg=all.length/\Aside (T=GL++(lq (all.drop j)++(dJ (c.drop (k+1))++oG ahead ss (i+1)))/\Below wy.heap.size wy wz));case atStart=>exact⟨_,0,rfl,rfl,oo,H4.o,Below.refl _ _⟩
      rotate_left;focus
       have H4:Hid (T=(((KO++⟨#[32]⟩)++⟨#[62]⟩)++⟨#[32]⟩)++(lq (all.drop 0)++(dJ (c.drop (k+1))++oG ahead ss (i+1)))):=by show _=_;rw[H3.o];rw[show kX 62=⟨#[32]⟩++(⟨#[62]⟩++⟨#[32]⟩) from rfl,ByteArray.append_assoc,ByteArray.append_assoc,ByteArray.append_assoc,ByteArray.append_assoc,ByteArray.append_assoc]
       have hq0:KO.size+3<=1099511627776:=by have e:(kX 62).size=3:=rfl;rw[e]at hsb;exact hsb
       have hcv:(convert 182 9 (.slice (some ⟨wy.heap.size,0,none⟩) 1 1)).run prog (wy.alloc (.cells #[.int .u8 62] 5))=.ok (.string ⟨#[62]⟩) (wy.alloc (.cells #[.int .u8 62] 5)):=pY 62 _ oo wy rfl;clear hsb;go_wp2_with fail;go_loopg[5,8] all.length (fun gg v5 v8 wz=>∃(GL:ByteArray) (j:Nat),v5=.string GL/\v8=.int .i64 (j:Int)/\j+gg=all.length/\Aside (T=GL++(lq (all.drop j)++(dJ (c.drop (k+1))++oG ahead ss (i+1)))/\Below wy.heap.size wy wz));case atStart=>exact⟨_,0,rfl,rfl,oo,H4.o,(Below.refl _ _).alloc nl _⟩
      rotate_left;focus
       have H4:Hid (T=(((KO++⟨#[32]⟩)++⟨#[43]⟩)++⟨#[32]⟩)++(lq (all.drop 0)++(dJ (c.drop (k+1))++oG ahead ss (i+1)))):=by show _=_;rw[H3.o];rw[show kX 43=⟨#[32]⟩++(⟨#[43]⟩++⟨#[32]⟩) from rfl,ByteArray.append_assoc,ByteArray.append_assoc,ByteArray.append_assoc,ByteArray.append_assoc,ByteArray.append_assoc]
       have hq0:KO.size+3<=1099511627776:=by have e:(kX 43).size=3:=rfl;rw[e]at hsb;exact hsb
       have hcv:(convert 182 9 (.slice (some ⟨wy.heap.size,0,none⟩) 1 1)).run prog (wy.alloc (.cells #[.int .u8 43] 5))=.ok (.string ⟨#[43]⟩) (wy.alloc (.cells #[.int .u8 43] 5)):=pY 43 _ oo wy rfl;clear hsb;go_wp2_with fail;go_loopg[5,8] all.length (fun gg v5 v8 wz=>∃(GL:ByteArray) (j:Nat),v5=.string GL/\v8=.int .i64 (j:Int)/\j+gg=all.length/\Aside (T=GL++(lq (all.drop j)++(dJ (c.drop (k+1))++oG ahead ss (i+1)))/\Below wy.heap.size wy wz));case atStart=>exact⟨_,0,rfl,rfl,oo,H4.o,(Below.refl _ _).alloc nl _⟩
      rotate_left;focus
       have H4:Hid (T=(((KO++⟨#[32]⟩)++⟨#[126]⟩)++⟨#[32]⟩)++(lq (all.drop 0)++(dJ (c.drop (k+1))++oG ahead ss (i+1)))):=by show _=_;rw[H3.o];rw[show kX 126=⟨#[32]⟩++(⟨#[126]⟩++⟨#[32]⟩) from rfl,ByteArray.append_assoc,ByteArray.append_assoc,ByteArray.append_assoc,ByteArray.append_assoc,ByteArray.append_assoc]
       have hq0:KO.size+3<=1099511627776:=by have e:(kX 126).size=3:=rfl;rw[e]at hsb;exact hsb
       have hcv:(convert 182 9 (.slice (some ⟨wy.heap.size,0,none⟩) 1 1)).run prog (wy.alloc (.cells #[.int .u8 126] 5))=.ok (.string ⟨#[126]⟩) (wy.alloc (.cells #[.int .u8 126] 5)):=pY 126 _ oo wy rfl;clear hsb;go_wp2_with fail;go_loopg[5,8] all.length (fun gg v5 v8 wz=>∃(GL:ByteArray) (j:Nat),v5=.string GL/\v8=.int .i64 (j:Int)/\j+gg=all.length/\Aside (T=GL++(lq (all.drop j)++(dJ (c.drop (k+1))++oG ahead ss (i+1)))/\Below wy.heap.size wy wz));case atStart=>exact⟨_,0,rfl,rfl,oo,H4.o,(Below.refl _ _).alloc nl _⟩
      rotate_left;all_goals
       case round=>
        obtain⟨wz,rfl⟩:∃q,q=wr:=⟨_,rfl⟩;obtain⟨GL,j,rfl,rfl,hj,hA⟩:=hrel;have H5:Hid (T=GL++(lq (all.drop j)++(dJ (c.drop (k+1))++oG ahead ss (i+1)))/\Below wy.heap.size wy wz):=hA.o;clear hA;have hsz:=H5.o.2.size;have afD:GL.size<=1099511627776:=by have:=hT;rw[H5.o.1,ByteArray.size_append]at this;omega
        obtain⟨f0,f1⟩:=HB1.o _ H5.o.2;clear e0 hb0;by_cases hlt3:j<all.length
        .have h3:(j:Int)<(all.length:Int):=oo;obtain⟨g3,o3,rfl,hL3,afb⟩:=(aeB.o.below (bP.fair f) H5.o.2 oo).here (by rintro rfl;simp at hlt3);obtain⟨hg3,cs,hCS,hcs⟩:=hL3.aex (i:=j) hlt3;have HQJ:=Xi all j hlt3 HQA.o;have HZJ:=Nat.le_trans (aaI all j hlt3) aeA.o;have HAJ:=ZW all j hlt3;generalize all[j]=s at hCS HQJ HZJ HAJ;obtain⟨kk,nm,how,vv,ls,pp⟩:=s;obtain⟨la,lc,rfl,_⟩:=hCS.form;have s0:=hcs 0 _ rfl;have s1:=hcs 1 _ rfl;have s2:=hcs 2 _ rfl;have s3:=hcs 3 _ rfl;have s4:=hcs 4 _ rfl;have s5:=hcs 5 _ rfl;rw[Nat.add_zero]at s0;have hIz:eX wz:=HIT.o.below (HC.o.2.trans ((H2.o.2.trans (H5.o.2.mono hsy)).mono hsr)) nl
         have Xl:Hid (Calls prog 113 #[dZ kk nm how vv (.slice la ls.length lc) pp] wz fun e w'=>e=.returned (.string (sK (.mk kk nm how vv ls pp)))/\Below wz.heap.size wz w'):=aey.o B kk nm how vv ls pp la lc wz hCS oo hIz HQJ HZJ;obtain⟨so,Hso⟩:∃so,Hid (sK (.mk kk nm how vv ls pp)=so):=⟨_,hid rfl⟩;rw[Hso.o]at Xl HAJ;have H6:Hid (T=(GL++so)++(lq (all.drop (j+1))++(dJ (c.drop (k+1))++oG ahead ss (i+1)))):=by show _=_;rw[H5.o.1,HAJ,ByteArray.append_assoc,ByteArray.append_assoc]
         have hs6:GL.size+so.size<=1099511627776:=by have:=hT;rw[H6.o,ByteArray.size_append,ByteArray.size_append]at this;omega
         clear hL3 hg3 hCS hcs HQJ HZJ HAJ hIz;go_wp2_with fail;refine Xl.o.mono ?_;rintro e w7 ⟨rfl,hb7⟩;have B7:Hid (Below wy.heap.size wy w7):=H5.o.2.trans (hb7.mono hsz);clear hb7 Xl s0 s1 s2 s3 s4 s5 f0 f1;go_wp2_with fail;go_roundg(gk-1);case measure=>omega
         case rel=>exact⟨GL++so,j+1,rfl,by congr 1,oo,H6.o,B7.o⟩
        .have h3:(all.length:Int)<=(j:Int):=oo;have HE:Hid (T=GL++(dJ (c.drop (k+1))++oG ahead ss (i+1))):=by show _=_;rw[H5.o.1,Xj all j oo,dP]
         have BE:Hid (Below wo.heap.size wo wz):=H2.o.2.trans (H5.o.2.mono hsy);go_wp2_with fail;go_roundg(c.length-(k+1));case measure=>omega
         case rel=>exact⟨GL,k+1,rfl,by congr 1,oo,HE.o,BE.o⟩
     .have h2:(c.length:Int)<=(k:Int):=oo;have HE:Hid (T=KO++oG ahead ss (i+1)):=by show _=_;rw[H2.o.1,Xk c k oo,dP]
      have BE:Hid (Below w.heap.size w wy):=HC.o.2.trans (H2.o.2.mono hsr);go_wp2_with fail;go_roundg(ss.length-(i+1));case measure=>omega
      case rel=>exact⟨KO,i+1,rfl,by congr 1,oo,HE.o,BE.o⟩
  .have h1:(ss.length:Int)<=(i:Int):=oo;have HV:Hid (acc=T):=by
    show _=_;rw[HC.o.1,Xf ahead ss i oo];exact(jL _).symm
   go_wp2_with fail;go_ret;exact⟨iW HV.o,HC.o.2⟩
theorem Nj(hd:ig):∀f,ZT f
 |0=>by intro B k nm how v l p la lc w hC hB hI hq hz;have hl:l=[]:=hC.1;subst hl;simp only[Na]at hq;refine Ar k nm how v [] p la 0 lc w hq.1 hI hd (by unfold gU;show 0<=_;omega) fun w' hb=>?_;exact yS 0 B [] _ ⟨#[]⟩ w' (SG.iG _ _ _ _ _ _) (Nat.le_trans hB hb.size) (hI.below hb nl) (fun h=>absurd rfl h) (by simp[uF]) (by simp[zL]) (by unfold gU;show 0<=_;omega)
 |f+1=>by
  intro B k nm how v l p la lc w hC hB hI hq hz;obtain⟨lv,e,hs⟩:=hC;have e2:Value.slice la l.length lc=lv:=by unfold Ih at e;simp at e;exact e
  subst e2;simp only[Na]at hq;simp only[zS]at hz;have hzl:=yR hd l hq.2;refine Ar k nm how v l p la l.length lc w hq.1 hI hd oo fun w' hb=>?_;exact yS f B l _ ⟨#[]⟩ w' (hs.below (One.fair (lX.fair (bP.fair f))) hb hB) (Nat.le_trans hB hb.size) (hI.below hb nl) (fun _=>Nj hd f) hq.2 oo (by show(gU aA l).size<=_;omega)
theorem Ui(f:Nat)(hd:ig)(B:Nat)(ss:fC)(v:Value)(ahead:ByteArray)(w:World)(h:SG (CX (bP f)) 1 (fun b=>b<B) w v ss)(hB:B<=w.heap.size)(hI:eX w)(hq:uF ss)(hz:zL ss<=549755813888)(hT:(gU ahead ss).size<=1099511627776):
  Calls prog 65 #[v,.string ahead] w fun e w'=>e=.returned (.string (gU ahead ss))/\Below w.heap.size w w':=yS f B ss v ahead w h hB hI (fun _=>Nj hd f) hq hz hT
theorem Qe(w:World){g k:Nat}(h:k≠g)(a b c d e f:Value):(abz w g a b c d e f).heap[k]?=w.heap[k]?:=by unfold abz;rw[Below.heap_setCell _ _ _ _ h,Below.heap_setCell _ _ _ _ h,Below.heap_setCell _ _ _ _ h,Below.heap_setCell _ _ _ _ h,Below.heap_setCell _ _ _ _ h,Below.heap_setCell _ _ _ _ h]
theorem iP(a:ByteArray)(l:List UInt8)(x:ByteArray)(hx:x=⟨l.toArray⟩):(a.toList==l)=decide (a=x):=by rw[aH,hx]
theorem ps0(n:Nd)(kv:Value)(w:World):Hid (NB ((w.alloc (.cells #[.int .i64 n.t.kind,.string n.t.word,.string n.t.unit,kv] 134)).alloc (.cells #[.int .u8 0,.string ⟨#[]⟩,.string ⟨#[]⟩,.string ⟨#[]⟩,.slice none 0 0,.int .i64 0] 194)) w.heap.size (.int .i64 n.t.kind) (.string n.t.word) (.string n.t.unit) kv)/\Hid (SB ((w.alloc (.cells #[.int .i64 n.t.kind,.string n.t.word,.string n.t.unit,kv] 134)).alloc (.cells #[.int .u8 0,.string ⟨#[]⟩,.string ⟨#[]⟩,.string ⟨#[]⟩,.slice none 0 0,.int .i64 0] 194)) (w.heap.size+1) (.int .u8 0) (.string ⟨#[]⟩) (.string ⟨#[]⟩) (.string ⟨#[]⟩) (.slice none 0 0) (.int .i64 0)):=by
 refine⟨NB.alloc (heap_alloc_new w _) _,?_⟩;show SB _ _ _ _ _ _ _ _;have h:=heap_alloc_new (w.alloc (.cells #[.int .i64 n.t.kind,.string n.t.word,.string n.t.unit,kv] 134)) (.cells #[.int .u8 0,.string ⟨#[]⟩,.string ⟨#[]⟩,.string ⟨#[]⟩,.slice none 0 0,.int .i64 0] 194);have e:(w.alloc (.cells #[.int .i64 n.t.kind,.string n.t.word,.string n.t.unit,kv] 134)).heap.size=w.heap.size+1:=by simp
 rw[e]at h;exact h
theorem ps1{n:Nd}{kv:Value}{w w1:World}(nm:ByteArray)(X0:Hid (NB ((w.alloc (.cells #[.int .i64 n.t.kind,.string n.t.word,.string n.t.unit,kv] 134)).alloc (.cells #[.int .u8 0,.string ⟨#[]⟩,.string ⟨#[]⟩,.string ⟨#[]⟩,.slice none 0 0,.int .i64 0] 194)) w.heap.size (.int .i64 n.t.kind) (.string n.t.word) (.string n.t.unit) kv))(R0:Hid (SB ((w.alloc (.cells #[.int .i64 n.t.kind,.string n.t.word,.string n.t.unit,kv] 134)).alloc (.cells #[.int .u8 0,.string ⟨#[]⟩,.string ⟨#[]⟩,.string ⟨#[]⟩,.slice none 0 0,.int .i64 0] 194)) (w.heap.size+1) (.int .u8 0) (.string ⟨#[]⟩) (.string ⟨#[]⟩) (.string ⟨#[]⟩) (.slice none 0 0) (.int .i64 0)))(hb1:Below ((w.alloc (.cells #[.int .i64 n.t.kind,.string n.t.word,.string n.t.unit,kv] 134)).alloc (.cells #[.int .u8 0,.string ⟨#[]⟩,.string ⟨#[]⟩,.string ⟨#[]⟩,.slice none 0 0,.int .i64 0] 194)).heap.size ((w.alloc (.cells #[.int .i64 n.t.kind,.string n.t.word,.string n.t.unit,kv] 134)).alloc (.cells #[.int .u8 0,.string ⟨#[]⟩,.string ⟨#[]⟩,.string ⟨#[]⟩,.slice none 0 0,.int .i64 0] 194)) w1):
  Hid (NB (w1.alloc (.cells #[.int .u8 58,.string nm,.string ⟨#[]⟩,.string ⟨#[]⟩,.slice none 0 0,.int .i64 0] 194)) w.heap.size (.int .i64 n.t.kind) (.string n.t.word) (.string n.t.unit) kv)/\Hid (SB (w1.alloc (.cells #[.int .u8 58,.string nm,.string ⟨#[]⟩,.string ⟨#[]⟩,.slice none 0 0,.int .i64 0] 194)) (w.heap.size+1) (.int .u8 0) (.string ⟨#[]⟩) (.string ⟨#[]⟩) (.string ⟨#[]⟩) (.slice none 0 0) (.int .i64 0))/\Hid (SB (w1.alloc (.cells #[.int .u8 58,.string nm,.string ⟨#[]⟩,.string ⟨#[]⟩,.slice none 0 0,.int .i64 0] 194)) w1.heap.size (.int .u8 58) (.string nm) (.string ⟨#[]⟩) (.string ⟨#[]⟩) (.slice none 0 0) (.int .i64 0))/\w.heap.size+2<=w1.heap.size/\Hid (Below w.heap.size w (w1.alloc (.cells #[.int .u8 58,.string nm,.string ⟨#[]⟩,.string ⟨#[]⟩,.slice none 0 0,.int .i64 0] 194))):=by
 have hs1:w.heap.size+2<=w1.heap.size:=by have:=hb1.size;simpa using this
 exact⟨(X0.o.below hb1).alloc _,(R0.o.below hb1).alloc _,heap_alloc_new w1 _,hs1,((((Below.refl _ _).alloc nl _).alloc (by simp) _).trans (hb1.mono (by simp;omega))).alloc oo _⟩
theorem Ko(f:Nat)(n:Nd)(kv:Value)(w:World)(hw:n.t.word.size<=4000000)(hk:(n.t.kind==14)=true):
  Calls prog 201 #[dM n.t kv] w fun e w'=>qm f n w w' e/\Below w.heap.size w w':=by
 unfold dM;obtain⟨X0,R0⟩:=ps0 n kv w;obtain⟨nm,iZ⟩:∃nm,Hid (small n.t.word=nm):=⟨_,hid rfl⟩;go_in;go_wp2_with fail;refine(gW n.t.word _ oo).mono ?_;rw[iZ.o];rintro e w1 ⟨rfl,hb1⟩;obtain⟨X1,R1,S1,hs1,B1⟩:=ps1 nm X0 R0 hb1;clear hb1 X0 R0;go_upto_region 3 with fail
 generalize w1.alloc (.cells #[.int .u8 58,.string nm,.string ⟨#[]⟩,.string ⟨#[]⟩,.slice none 0 0,.int .i64 0] 194)=w2 at *;generalize w1.heap.size=sb at *;have hsb:sb<w2.heap.size:=S1.o.lt;have hlt0:¬sb=w.heap.size:=oo;have hlt1:¬sb=w.heap.size+1:=oo;obtain⟨x0,x1,x2,x3⟩:=X1.o.cs;obtain⟨r0,r1,r2,r3,r4,r5⟩:=R1.o.cs;obtain⟨s0,s1,s2,s3,s4,s5⟩:=S1.o.cs;have C9:=S1.o.fz 4;have DK:=S1.o.fz 5;have yK:=R1.o.fz 0;have yL:=R1.o.fz 1;have yM:=R1.o.fz 2;have yN:=R1.o.fz 3;have yO:=R1.o.fz 4;have yP:=R1.o.fz 5;have HV:Hid (aK (aY f) n=if nm=zq\/nm=su\/nm=zu\/nm=sD then some (Simple.of 58 nm) else none):=by show _=_;unfold aK;simp only[iZ.o];rw[if_pos (by simpa using hk)]
 have hh:((nm.toList==[114,111,111,116])=true)\/((nm.toList==[114,111,111,116])=false/\(nm.toList==[102,105,114,115,116,45,99,104,105,108,100])=true)\/((nm.toList==[114,111,111,116])=false/\(nm.toList==[102,105,114,115,116,45,99,104,105,108,100])=false/\(nm.toList==[108,97,115,116,45,99,104,105,108,100])=true)\/((nm.toList==[114,111,111,116])=false/\(nm.toList==[102,105,114,115,116,45,99,104,105,108,100])=false/\(nm.toList==[108,97,115,116,45,99,104,105,108,100])=false):=by cases(nm.toList==[114,111,111,116])<;>cases(nm.toList==[102,105,114,115,116,45,99,104,105,108,100])<;>cases(nm.toList==[108,97,115,116,45,99,104,105,108,100])<;>simp
 have HE:Hid (nm=zq\/nm=su\/nm=zu\/nm=sD↔((nm.toList==[114,111,111,116])||(nm.toList==[102,105,114,115,116,45,99,104,105,108,100])||(nm.toList==[108,97,115,116,45,99,104,105,108,100])||(nm.toList==[101,109,112,116,121]))=true):=by show _↔_;rw[iP nm _ zq rfl,iP nm _ su rfl,iP nm _ zu rfl,iP nm _ sD rfl];simp[or_assoc]
 have fin:∀(b:Bool) (w':World),((nm.toList==[114,111,111,116])||(nm.toList==[102,105,114,115,116,45,99,104,105,108,100])||(nm.toList==[108,97,115,116,45,99,104,105,108,100])||(nm.toList==[101,109,112,116,121]))=b->qm f n w w' (.returned (.tuple #[dZ 58 nm aA aA (.slice none 0 0) 0,.bool b])):=by
  intro b w' hb;unfold qm;rw[HV.o];cases b with
  |true=>rw[if_pos (HE.o.2 hb)];exact⟨58,nm,aA,aA,_,0,rfl,bP.plain _ _ _ _ _ _ _ _⟩
  |false=>rw[if_neg (fun h=>by have:=HE.o.1 h;rw[hb]at this;cases this)];exact⟨58,nm,aA,aA,_,_,_,0,rfl⟩
 have FIN:Hid (∀(b:Bool) (w':World),((nm.toList==[114,111,111,116])||(nm.toList==[102,105,114,115,116,45,99,104,105,108,100])||(nm.toList==[108,97,115,116,45,99,104,105,108,100])||(nm.toList==[101,109,112,116,121]))=b->qm f n w w' (.returned (.tuple #[dZ 58 nm aA aA (.slice none 0 0) 0,.bool b]))):=fin;clear fin HE HV;rcases hh with k1|⟨k1,k2⟩|⟨k1,k2,k3⟩|⟨k1,k2,k3⟩
 .go_wp2_with fail;refine bodyPost_ret (v:=.tuple #[dZ 58 nm aA aA (.slice none 0 0) 0,.bool true]) (by simp[results,Tryz.results201,go_sem,dZ,aA,r0,r1,r2,r3,r4,r5]) rfl ?_;exact⟨FIN.o _ _ (by rw[k1];rfl),bH B1.o oo _ _ _ _ _ _⟩
 .go_wp2_with fail;refine bodyPost_ret (v:=.tuple #[dZ 58 nm aA aA (.slice none 0 0) 0,.bool true]) (by simp[results,Tryz.results201,go_sem,dZ,aA,r0,r1,r2,r3,r4,r5]) rfl ?_;exact⟨FIN.o _ _ (by rw[k1,k2];rfl),bH B1.o oo _ _ _ _ _ _⟩
 .go_wp2_with fail;refine bodyPost_ret (v:=.tuple #[dZ 58 nm aA aA (.slice none 0 0) 0,.bool true]) (by simp[results,Tryz.results201,go_sem,dZ,aA,r0,r1,r2,r3,r4,r5]) rfl ?_;exact⟨FIN.o _ _ (by rw[k1,k2,k3];rfl),bH B1.o oo _ _ _ _ _ _⟩
 .go_wp2_with fail;refine bodyPost_ret (v:=.tuple #[dZ 58 nm aA aA (.slice none 0 0) 0,.bool (nm.toList==[101,109,112,116,121])]) (by simp[results,Tryz.results201,go_sem,dZ,aA,r0,r1,r2,r3,r4,r5]) rfl ?_;exact⟨FIN.o _ _ (by rw[k1,k2,k3];rfl),bH B1.o oo _ _ _ _ _ _⟩
theorem vJ{f:Nat}{n:Nd}{w w':World}{nm:ByteArray}(h:aK (aY f) n=none):qm f n w w' (.returned (.tuple #[dZ 58 nm aA aA (.slice none 0 0) 0,.bool false])):=by unfold qm;rw[h];exact⟨58,nm,aA,aA,_,_,_,0,rfl⟩
theorem Nk(f:Nat)(n:Nd)(kv:Value)(w:World)(hw:n.t.word.size<=4000000)(hk:(n.t.kind==14)=false)(hk2:(n.t.kind != 11)=true):
  Calls prog 201 #[dM n.t kv] w fun e w'=>qm f n w w' e/\Below w.heap.size w w':=by
 have HV:Hid (aK (aY f) n=none):=by show _=_;unfold aK;simp only;rw[if_neg (by simpa using hk),if_pos (by simpa using hk2)]
 unfold dM;obtain⟨X0,R0⟩:=ps0 n kv w;obtain⟨nm,iZ⟩:∃nm,Hid (small n.t.word=nm):=⟨_,hid rfl⟩;go_in;go_wp2_with fail;refine(gW n.t.word _ oo).mono ?_;rw[iZ.o];rintro e w1 ⟨rfl,hb1⟩;obtain⟨X1,R1,S1,hs1,B1⟩:=ps1 nm X0 R0 hb1;clear hb1 X0 R0;go_upto_region 3 with fail
 generalize w1.alloc (.cells #[.int .u8 58,.string nm,.string ⟨#[]⟩,.string ⟨#[]⟩,.slice none 0 0,.int .i64 0] 194)=w2 at *;generalize w1.heap.size=sb at *;have hsb:sb<w2.heap.size:=S1.o.lt;have hlt0:¬sb=w.heap.size:=oo;have hlt1:¬sb=w.heap.size+1:=oo;obtain⟨x0,x1,x2,x3⟩:=X1.o.cs;obtain⟨r0,r1,r2,r3,r4,r5⟩:=R1.o.cs;obtain⟨s0,s1,s2,s3,s4,s5⟩:=S1.o.cs;have C9:=S1.o.fz 4;have DK:=S1.o.fz 5;have yK:=R1.o.fz 0;have yL:=R1.o.fz 1;have yM:=R1.o.fz 2;have yN:=R1.o.fz 3;have yO:=R1.o.fz 4;have yP:=R1.o.fz 5;go_wp2_with fail;refine bodyPost_ret (v:=.tuple #[dZ 58 nm aA aA (.slice none 0 0) 0,.bool false]) (by simp[results,Tryz.results201,go_sem,dZ,aA,r0,r1,r2,r3,r4,r5]) rfl ?_;exact⟨vJ HV.o,bH B1.o oo _ _ _ _ _ _⟩
theorem FI(f:Nat)(n:Nd)(kv:Value)(w:World)(hw:n.t.word.size<=4000000)(hk:(n.t.kind==14)=false)(hk2:(n.t.kind != 11)=false)(h1:¬small n.t.word=lg)(h2:¬small n.t.word=xB)(h3:¬small n.t.word=iR):
  Calls prog 201 #[dM n.t kv] w fun e w'=>qm f n w w' e/\Below w.heap.size w w':=by
 have HV:Hid (aK (aY f) n=none):=by show _=_;unfold aK;simp only;rw[if_neg (by simpa using hk),if_neg (by simpa using hk2),if_neg (by simp[h1,h2]),if_neg h3]
 unfold dM;obtain⟨X0,R0⟩:=ps0 n kv w;obtain⟨nm,iZ⟩:∃nm,Hid (small n.t.word=nm):=⟨_,hid rfl⟩;go_in;go_wp2_with fail;refine(gW n.t.word _ oo).mono ?_;rw[iZ.o];rintro e w1 ⟨rfl,hb1⟩;obtain⟨X1,R1,S1,hs1,B1⟩:=ps1 nm X0 R0 hb1;clear hb1 X0 R0;go_upto_region 3 with fail
 generalize w1.alloc (.cells #[.int .u8 58,.string nm,.string ⟨#[]⟩,.string ⟨#[]⟩,.slice none 0 0,.int .i64 0] 194)=w2 at *;generalize w1.heap.size=sb at *;have hsb:sb<w2.heap.size:=S1.o.lt;have hlt0:¬sb=w.heap.size:=oo;have hlt1:¬sb=w.heap.size+1:=oo;obtain⟨x0,x1,x2,x3⟩:=X1.o.cs;obtain⟨r0,r1,r2,r3,r4,r5⟩:=R1.o.cs;obtain⟨s0,s1,s2,s3,s4,s5⟩:=S1.o.cs;have C9:=S1.o.fz 4;have DK:=S1.o.fz 5;have yK:=R1.o.fz 0;have yL:=R1.o.fz 1;have yM:=R1.o.fz 2;have yN:=R1.o.fz 3;have yO:=R1.o.fz 4;have yP:=R1.o.fz 5;have k1:(nm.toList==[110,111,116])=false:=by rw[iP nm _ lg rfl,<-iZ.o];simpa using h1
 have k2:(nm.toList==[105,115])=false:=by rw[iP nm _ xB rfl,<-iZ.o];simpa using h2
 have k3:(nm.toList==[110,116,104,45,99,104,105,108,100])=false:=by rw[iP nm _ iR rfl,<-iZ.o];simpa using h3
 clear h1 h2 h3;go_wp2_with fail;refine bodyPost_ret (v:=.tuple #[dZ 58 nm aA aA (.slice none 0 0) 0,.bool false]) (by simp[results,Tryz.results201,go_sem,dZ,aA,r0,r1,r2,r3,r4,r5]) rfl ?_;exact⟨vJ HV.o,bH B1.o oo _ _ _ _ _ _⟩
theorem Nl(f:Nat)(hIH:JW f)(B:Nat)(n:Nd)(kv:Value)(w:World)(hw:n.t.word.size<=4000000)(hk:(n.t.kind==14)=false)(hk2:(n.t.kind != 11)=false)(h12:small n.t.word=lg\/small n.t.word=xB)
  (hS:Sl (fun b=>b<B) w kv n.kids) (hB:B<=w.heap.size) (hd:depth n.kids<=f):
  Calls prog 201 #[dM n.t kv] w fun e w'=>qm (f+1) n w w' e/\Below w.heap.size w w':=by
 have HV:Hid (aK (aY (f+1)) n=(ny f n.kids).map (fun l=>.mk 58 (small n.t.word) aA aA l 0)):=by show _=_;unfold aK;simp only;rw[if_neg (by simpa using hk),if_neg (by simpa using hk2),if_pos h12];rfl
 have HS:Hid (Sl (fun b=>b<B) w kv n.kids):=hS;clear hS;unfold dM;obtain⟨X0,R0⟩:=ps0 n kv w;obtain⟨nm,iZ⟩:∃nm,Hid (small n.t.word=nm):=⟨_,hid rfl⟩;go_in;go_wp2_with fail;refine(gW n.t.word _ oo).mono ?_;rw[iZ.o];rintro e w1 ⟨rfl,hb1⟩;obtain⟨X1,R1,S1,hs1,B1⟩:=ps1 nm X0 R0 hb1;clear hb1 X0 R0;go_upto_region 3 with fail
 generalize w1.alloc (.cells #[.int .u8 58,.string nm,.string ⟨#[]⟩,.string ⟨#[]⟩,.slice none 0 0,.int .i64 0] 194)=w2 at *;generalize w1.heap.size=sb at *;have hsb:sb<w2.heap.size:=S1.o.lt;have hlt0:¬sb=w.heap.size:=oo;have hlt1:¬sb=w.heap.size+1:=oo;obtain⟨x0,x1,x2,x3⟩:=X1.o.cs;obtain⟨r0,r1,r2,r3,r4,r5⟩:=R1.o.cs;obtain⟨s0,s1,s2,s3,s4,s5⟩:=S1.o.cs;have C9:=S1.o.fz 4;have DK:=S1.o.fz 5;have yK:=R1.o.fz 0;have yL:=R1.o.fz 1;have yM:=R1.o.fz 2;have yN:=R1.o.fz 3;have yO:=R1.o.fz 4;have yP:=R1.o.fz 5;have hh:(nm.toList==[110,111,116])=true\/((nm.toList==[110,111,116])=false/\(nm.toList==[105,115])=true):=by
  rw[iZ.o]at h12;rw[iP nm _ lg rfl,iP nm _ xB rfl];rcases h12 with e|e
  .exact .inl (by simpa using e)
  .by_cases h:nm=lg
   .exact .inl (by simpa using h)
   .exact .inr ⟨by simpa using h,by simpa using e⟩
 clear h12;rcases hh with k1|⟨k1,k2⟩;all_goals
  go_wp2_with fail;refine(hIH B n.kids kv _ hd (HS.o.below B1.o hB) oo).mono ?_;rintro e w3 ⟨hp,hb2⟩;have hs2:=hb2.size;have B2:Hid (Below w.heap.size w w3):=B1.o.trans (hb2.mono oo);have R2:Hid (SB w3 (w.heap.size+1) (.int .u8 0) (.string ⟨#[]⟩) (.string ⟨#[]⟩) (.string ⟨#[]⟩) (.slice none 0 0) (.int .i64 0)):=R1.o.below hb2;have S2:Hid (SB w3 sb (.int .u8 58) (.string nm) (.string ⟨#[]⟩) (.string ⟨#[]⟩) (.slice none 0 0) (.int .i64 0)):=S1.o.below hb2;have HP:Hid (Fb f n.kids w2 w3 e):=hp;clear hp hb2 R1 X1 S1 r0 r1 r2 r3 r4 r5 yK yL yM yN yO yP x0 x1 x2 x3 s0 s1 s2 s3 s4 s5 C9 DK;obtain⟨r0,r1,r2,r3,r4,r5⟩:=R2.o.cs;obtain⟨s0,s1,s2,s3,s4,s5⟩:=S2.o.cs;have yK:=R2.o.fz 0;have yL:=R2.o.fz 1;have yM:=R2.o.fz 2;have yN:=R2.o.fz 3;have yO:=R2.o.fz 4;have yP:=R2.o.fz 5;have C9:=S2.o.fz 4;have hp:=HP.o;unfold Fb at hp
  cases hsel:ny f n.kids with
  |none=>rw[hsel]at hp;simp only at hp;subst hp;go_wp2_with fail;refine bodyPost_ret (v:=.tuple #[dZ 58 nm aA aA (.slice none 0 0) 0,.bool false]) (by simp[results,Tryz.results201,go_sem,dZ,aA,r0,r1,r2,r3,r4,r5]) rfl ?_;exact⟨vJ (by rw[HV.o,hsel];rfl),bH (B2.o.setCell (by show w.heap.size<=sb;omega) _) oo _ _ _ _ _ _⟩
  |some ss=>
   rw[hsel]at hp;simp only at hp;obtain⟨sv,rfl,hsg⟩:=hp;obtain⟨sa,sc,rfl⟩:=hsg.form;have HG:Hid (SG (CX (bP f)) 1 (vV w2.heap.size w3) w3 (.slice sa ss.length sc) ss):=hsg;clear hsg;go_wp2_with fail;refine bodyPost_ret (v:=.tuple #[dZ 58 nm aA aA (.slice sa ss.length sc) 0,.bool true]) (by simp[results,Tryz.results201,go_sem,dZ,aA,r0,r1,r2,r3,r4,r5]) rfl ?_;refine⟨?_,bH (B2.o.setCell (by show w.heap.size<=sb;omega) _) oo _ _ _ _ _ _⟩;unfold qm;rw[HV.o,hsel,iZ.o];refine⟨58,nm,aA,aA,_,0,rfl,_,rfl,?_⟩;refine HG.o.keep (One.fair (lX.fair (bP.fair f))) (fun g hg=>⟨?_,?_⟩) fun g hg=>?_
   .have:=hg.1;omega
   .have:=hg.2;simpa[World.setCell]using this
   .have h1:=hg.1;exact(Qe (w3.setCell ⟨sb,4,none⟩ (.slice sa ss.length sc)) oo _ _ _ _ _ _).trans (Below.heap_setCell _ _ _ _ (by show g≠sb;omega))
end Go.Proofs.YtlliliddljkbfaaGreatDoor
