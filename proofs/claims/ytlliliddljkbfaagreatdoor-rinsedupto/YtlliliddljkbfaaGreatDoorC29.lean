import Derived.Test.YtlliliddljkbfaaGreatDoorC4
import Derived.Test.YtlliliddljkbfaaGreatDoorC22
import Derived.Test.YtlliliddljkbfaaGreatDoorC28
import Derived.Deep.RegionHeld3
namespace Go.Proofs.YtlliliddljkbfaaGreatDoor
set_option maxHeartbeats 64000000
set_option maxRecDepth 100000
open Go.Proofs.Tryz (prog)
open Go.RowKit Sp
section
def xP(l:List Nd):Prop:=∀(B:Nat) (v:Value) (w:World),Sl (fun b=>b<B) w v l->B<=w.heap.size->fB l<=549755813888->Calls prog 62 #[v] w fun e w'=>e=.returned (.string (Sp.written l))/\Below w.heap.size w w'
theorem NB.new(w:World)(a b c d:Value):NB (w.alloc (.cells #[a,b,c,d] 134)) w.heap.size a b c d:=heap_alloc_new w _
theorem NB.drew{w:World}{g:Nat}{a b c d:Value}(h:NB w g a b c d):NB w.drew g a b c d:=h
section
variable (wd un:ByteArray) (ka:Option Addr) (kl kc:Nat) (w:World)
theorem adi:Calls prog 111 #[.agg #[.int .i64 1,.string wd,.string un,.slice ka kl kc]] w fun e w'=>e=.returned (.string (b1 32))/\Below w.heap.size w w':=by have B2:Hid (Below w.heap.size w (w.alloc (.cells #[.int .i64 1,.string wd,.string un,.slice ka kl kc] 134))):=(Below.refl _ _).alloc nl _;have hs2:=B2.o.size;go_in;go_wp2_with fail;go_ret;exact⟨rfl,B2.o⟩
theorem adk(hw:wd.size<=4000000):Calls prog 111 #[.agg #[.int .i64 2,.string wd,.string un,.slice ka kl kc]] w fun e w'=>e=.returned (.string (oK wd))/\Below w.heap.size w w':=by have B2:Hid (Below w.heap.size w (w.alloc (.cells #[.int .i64 2,.string wd,.string un,.slice ka kl kc] 134))):=(Below.refl _ _).alloc nl _;have hs2:=B2.o.size;go_in;go_wp2_with fail;refine pmb (I5 wd _ hw) fun w3 hb3=>?_;have B3:Hid (Below w.heap.size w w3):=B2.o.trans (hb3.mono hs2);clear hb3;go_wp2_with fail;go_ret;exact⟨rfl,B3.o⟩
theorem adl:Calls prog 111 #[.agg #[.int .i64 3,.string wd,.string un,.slice ka kl kc]] w fun e w'=>e=.returned (.string (Vt))/\Below w.heap.size w w':=by have B2:Hid (Below w.heap.size w (w.alloc (.cells #[.int .i64 3,.string wd,.string un,.slice ka kl kc] 134))):=(Below.refl _ _).alloc nl _;have hs2:=B2.o.size;go_in;go_wp2_with fail;go_ret;exact⟨rfl,B2.o⟩
theorem adn(hw:wd.size<=4000000):Calls prog 111 #[.agg #[.int .i64 4,.string wd,.string un,.slice ka kl kc]] w fun e w'=>e=.returned (.string (b1 35++bC wd))/\Below w.heap.size w w':=by
 have B2:Hid (Below w.heap.size w (w.alloc (.cells #[.int .i64 4,.string wd,.string un,.slice ka kl kc] 134))):=(Below.refl _ _).alloc nl _;have hs2:=B2.o.size;obtain⟨nm,iZ⟩:∃nm,Hid (bC wd=nm):=⟨_,hid rfl⟩;have hsz:nm.size<=4*wd.size:=by rw[<-iZ.o];exact bZ wd
 rw[iZ.o];go_in;go_wp2_with fail;refine(jc wd _ hw).mono ?_;rw[iZ.o];rintro e w3 ⟨rfl,hb3⟩;have B3:Hid (Below w.heap.size w w3):=B2.o.trans (hb3.mono hs2);clear hb3;go_wp2_with fail;go_ret;exact⟨rfl,B3.o⟩
theorem ado(hw:wd.size<=4000000):Calls prog 111 #[.agg #[.int .i64 6,.string wd,.string un,.slice ka kl kc]] w fun e w'=>e=.returned (.string (wd++b1 37))/\Below w.heap.size w w':=by have B2:Hid (Below w.heap.size w (w.alloc (.cells #[.int .i64 6,.string wd,.string un,.slice ka kl kc] 134))):=(Below.refl _ _).alloc nl _;have hs2:=B2.o.size;go_in;go_wp2_with fail;go_ret;exact⟨rfl,B2.o⟩
theorem adp(hw:wd.size<=4000000)(hu:un.size<=1000)(h0:0<un.size):Calls prog 111 #[.agg #[.int .i64 7,.string wd,.string un,.slice ka kl kc]] w fun e w'=>e=.returned (.string (wd++oJ un))/\Below w.heap.size w w':=by
 have B2:Hid (Below w.heap.size w (w.alloc (.cells #[.int .i64 7,.string wd,.string un,.slice ka kl kc] 134))):=(Below.refl _ _).alloc nl _;have hs2:=B2.o.size;have hix:=aV un 0 h0;have hpk:=qg h0;rw[hpk]at hix;have HU:Hid (bt un 0=101\/bt un 0=69->oJ un=ji (bt un 0)++Fp un/\1<=(bC (⟨#[97]⟩++un.extract 1 un.size)).size):=ZE h0;have HN:Hid (¬bt un 0=101->¬bt un 0=69->oJ un=bC un):=ZF h0;have hus:=yg un;obtain⟨c,Hc⟩:∃c,Hid (bt un 0=c):=⟨_,hid rfl⟩;rw[Hc.o]at hix HU HN;have hix':∀w,(Instr.index 9 (.string un) (.int .i64 0)).run prog w=.ok (.int .u8 (c.toNat:Int)) w:=hix;clear hix hpk;have hc:=c.toNat_lt;have esc:∀(hq:c=101\/c=69),Calls prog 111 #[.agg #[.int .i64 7,.string wd,.string un,.slice ka kl kc]] w fun e w'=>e=.returned (.string (wd++oJ un))/\Below w.heap.size w w':=by
  intro hq;obtain⟨hV,h1⟩:=HU.o hq;have HR1:Hid (1<=(bC (⟨#[97]⟩++un.extract 1 un.size)).size):=h1;have hq':((c.toNat:Int)==101)=true\/(((c.toNat:Int)==101)=false/\((c.toNat:Int)==69)=true):=by
   rcases hq with e|e
   .exact .inl (by rw[e];rfl)
   .exact .inr ⟨by rw[e];rfl,by rw[e];rfl⟩
  have hsz:(Fp un).size<=4*un.size:=by rw[hV,ByteArray.size_append]at hus;omega
  obtain⟨rs,Hrs⟩:∃rs,Hid (Fp un=rs):=⟨_,hid rfl⟩;have HV:Hid ((wd++ji c)++rs=wd++oJ un):=by show _=_;rw[hV,Hrs.o,ByteArray.append_assoc]
  rw[Hrs.o]at hsz;clear hV h1 HU HN hus hq;obtain⟨x,Hx⟩:∃x,Hid (ji c=x):=⟨_,hid rfl⟩;have hxs:x.size=4:=by rw[<-Hx.o];rfl
  rw[Hx.o]at HV;rcases hq' with h1|⟨h1,h2⟩;all_goals
   go_in;go_wp2_with fail;refine(iK c _).mono ?_;rw[Hx.o];rintro e w3 ⟨rfl,hb3⟩;have B3:Hid (Below w.heap.size w w3):=B2.o.trans (hb3.mono hs2);have hs3:=B3.o.size;clear hb3;go_wp2_with fail;refine(abC un _ hu h0 HR1.o).mono ?_;rw[Hrs.o];rintro e w4 ⟨rfl,hb4⟩;have B4:Hid (Below w.heap.size w w4):=B3.o.trans (hb4.mono hs3);clear hb4;go_wp2_with fail;go_ret;exact⟨iW HV.o,B4.o⟩
 by_cases h1:c=101
 .exact esc (.inl h1)
 by_cases h2:c=69
 .exact esc (.inr h2)
 have HV:Hid (oJ un=bC un):=HN.o h1 h2;have g1:((c.toNat:Int)==101)=false:=beq_eq_false_iff_ne.2 (fun e=>h1 ((rD (n:=101) oo).2 e));have g2:((c.toNat:Int)==69)=false:=beq_eq_false_iff_ne.2 (fun e=>h2 ((rD (n:=69) oo).2 e));rw[HV.o];clear esc HU HN h1 h2 hus HV;obtain⟨nm,iZ⟩:∃nm,Hid (bC un=nm):=⟨_,hid rfl⟩;have hsz:nm.size<=4*un.size:=by rw[<-iZ.o];exact bZ un
 rw[iZ.o];go_in;go_wp2_with fail;refine(jc un _ oo).mono ?_;rw[iZ.o];rintro e w3 ⟨rfl,hb3⟩;have B3:Hid (Below w.heap.size w w3):=B2.o.trans (hb3.mono hs2);clear hb3;go_wp2_with fail;go_ret;exact⟨rfl,B3.o⟩
theorem adq:Calls prog 111 #[.agg #[.int .i64 8,.string wd,.string un,.slice ka kl kc]] w fun e w'=>e=.returned (.string (Vs))/\Below w.heap.size w w':=by have B2:Hid (Below w.heap.size w (w.alloc (.cells #[.int .i64 8,.string wd,.string un,.slice ka kl kc] 134))):=(Below.refl _ _).alloc nl _;have hs2:=B2.o.size;go_in;go_wp2_with fail;go_ret;exact⟨rfl,B2.o⟩
theorem adr:Calls prog 111 #[.agg #[.int .i64 9,.string wd,.string un,.slice ka kl kc]] w fun e w'=>e=.returned (.string (OJ))/\Below w.heap.size w w':=by have B2:Hid (Below w.heap.size w (w.alloc (.cells #[.int .i64 9,.string wd,.string un,.slice ka kl kc] 134))):=(Below.refl _ _).alloc nl _;have hs2:=B2.o.size;go_in;go_wp2_with fail;go_ret;exact⟨rfl,B2.o⟩
theorem abD(hw:wd.size<=4000000):Calls prog 111 #[.agg #[.int .i64 10,.string wd,.string un,.slice ka kl kc]] w fun e w'=>e=.returned (.string (b1 64++bC wd))/\Below w.heap.size w w':=by
 have B2:Hid (Below w.heap.size w (w.alloc (.cells #[.int .i64 10,.string wd,.string un,.slice ka kl kc] 134))):=(Below.refl _ _).alloc nl _;have hs2:=B2.o.size;obtain⟨nm,iZ⟩:∃nm,Hid (bC wd=nm):=⟨_,hid rfl⟩;have hsz:nm.size<=4*wd.size:=by rw[<-iZ.o];exact bZ wd
 rw[iZ.o];go_in;go_wp2_with fail;refine(jc wd _ hw).mono ?_;rw[iZ.o];rintro e w3 ⟨rfl,hb3⟩;have B3:Hid (Below w.heap.size w w3):=B2.o.trans (hb3.mono hs2);clear hb3;go_wp2_with fail;go_ret;exact⟨rfl,B3.o⟩
theorem abE(hw:wd.size<=4000000):Calls prog 111 #[.agg #[.int .i64 12,.string wd,.string un,.slice ka kl kc]] w fun e w'=>e=.returned (.string (tZ wd))/\Below w.heap.size w w':=by have B2:Hid (Below w.heap.size w (w.alloc (.cells #[.int .i64 12,.string wd,.string un,.slice ka kl kc] 134))):=(Below.refl _ _).alloc nl _;have hs2:=B2.o.size;go_in;go_wp2_with fail;refine pmb (TW wd _ hw) fun w3 hb3=>?_;have B3:Hid (Below w.heap.size w w3):=B2.o.trans (hb3.mono hs2);clear hb3;go_wp2_with fail;go_ret;exact⟨rfl,B3.o⟩
theorem abG:Calls prog 111 #[.agg #[.int .i64 13,.string wd,.string un,.slice ka kl kc]] w fun e w'=>e=.returned (.string (Vu))/\Below w.heap.size w w':=by have B2:Hid (Below w.heap.size w (w.alloc (.cells #[.int .i64 13,.string wd,.string un,.slice ka kl kc] 134))):=(Below.refl _ _).alloc nl _;have hs2:=B2.o.size;go_in;go_wp2_with fail;go_ret;exact⟨rfl,B2.o⟩
theorem abH(hw:wd.size<=4000000):Calls prog 111 #[.agg #[.int .i64 14,.string wd,.string un,.slice ka kl kc]] w fun e w'=>e=.returned (.string (bC wd))/\Below w.heap.size w w':=by have B2:Hid (Below w.heap.size w (w.alloc (.cells #[.int .i64 14,.string wd,.string un,.slice ka kl kc] 134))):=(Below.refl _ _).alloc nl _;have hs2:=B2.o.size;go_in;go_wp2_with fail;refine pmb (jc wd _ hw) fun w3 hb3=>?_;have B3:Hid (Below w.heap.size w w3):=B2.o.trans (hb3.mono hs2);clear hb3;go_wp2_with fail;go_ret;exact⟨rfl,B3.o⟩
theorem ads(kd:Int)(h1:(kd==1)=false)(h2:(kd==2)=false)(h3:(kd==3)=false)(h4:(kd==4)=false)(h6:(kd==6)=false)(h7:(kd==7)=false)(h8:(kd==8)=false)(h9:(kd==9)=false)(h10:(kd==10)=false)(h11:(kd==11)=false)(h12:(kd==12)=false)(h13:(kd==13)=false)(h14:(kd==14)=false)(h15:(kd==15)=false):Calls prog 111 #[.agg #[.int .i64 kd,.string wd,.string un,.slice ka kl kc]] w fun e w'=>e=.returned (.string (wd))/\Below w.heap.size w w':=by have B2:Hid (Below w.heap.size w (w.alloc (.cells #[.int .i64 kd,.string wd,.string un,.slice ka kl kc] 134))):=(Below.refl _ _).alloc nl _;have hs2:=B2.o.size;go_in;go_wp2_with fail;go_ret;exact⟨rfl,B2.o⟩
end
section
variable (wd un:ByteArray) (ka:Option Addr) (kids:List Nd) (kc B:Nat) (w:World)
theorem abI(hrec:xP kids)(hk:Sl (fun b=>b<B) w (.slice ka kids.length kc) kids)(hB:B<=w.heap.size)(hz:fB kids<=549755813888)(hw:wd.size<=4000000):Calls prog 111 #[.agg #[.int .i64 11,.string wd,.string un,.slice ka kids.length kc]] w fun e w'=>e=.returned (.string (bC wd++(b1 40++(Sp.written kids++b1 41))))/\Below w.heap.size w w':=by
 have B2:Hid (Below w.heap.size w (w.alloc (.cells #[.int .i64 11,.string wd,.string un,.slice ka kids.length kc] 134)).drew):=nN _ _;have A2:Hid (NB (w.alloc (.cells #[.int .i64 11,.string wd,.string un,.slice ka kids.length kc] 134)).drew w.heap.size (.int .i64 11) (.string wd) (.string un) (.slice ka kids.length kc)):=NB.new _ _ _ _ _;have S2:Hid (Sl (fun b=>b<B) (w.alloc (.cells #[.int .i64 11,.string wd,.string un,.slice ka kids.length kc] 134)).drew (.slice ka kids.length kc) kids):=hk.below B2.o hB;have HR:Hid (xP kids):=hrec;clear hk hrec;obtain⟨nm,iZ⟩:∃nm,Hid (bC wd=nm):=⟨_,hid rfl⟩;obtain⟨wr,Pn⟩:∃wr,Hid (Sp.written kids=wr):=⟨_,hid rfl⟩;have HV:Hid (((nm++⟨#[40]⟩)++wr)++⟨#[41]⟩=bC wd++(b1 40++(Sp.written kids++b1 41))):=by show _=_;rw[iZ.o,Pn.o,ByteArray.append_assoc,ByteArray.append_assoc];rfl
 have hsz:nm.size<=4*wd.size:=by rw[<-iZ.o];exact bZ wd
 have hsw:wr.size<=fB kids:=by rw[<-Pn.o];exact gZ kids
 go_in;go_wp2_with fail;refine wp_region_any (by kernel_rfl) ?_;change wpAny _ _ _ _ _ _ _ (World.drew _);generalize(w.alloc (.cells #[.int .i64 11,.string wd,.string un,.slice ka kids.length kc] 134)).drew=w2 at *;have hs2:=B2.o.size;refine wpAny_of_held (S:=fun wx=>NB wx w.heap.size (.int .i64 11) (.string wd) (.string un) (.slice ka kids.length kc)) _ _ _ _ ?_;refine bY 0 rfl A2.o (by intro w hSw;obtain⟨a0,a1,a2,a3⟩:=NB.cs hSw;exact gs) ?_;refine bY 3 rfl A2.o (by intro w hSw;obtain⟨a0,a1,a2,a3⟩:=NB.cs hSw;exact gs) ?_;refine bY 4 rfl A2.o (by intro w hSw;obtain⟨a0,a1,a2,a3⟩:=NB.cs hSw;exact gs) ?_;refine jh 1 fun K hK=>?_;go_simp;refine(jc wd _ hw).mono ?_;rw[iZ.o];rintro e w3 ⟨rfl,hb3⟩
 have B3:Hid (Below w.heap.size w w3):=B2.o.trans (hb3.mono hs2);have A3:Hid (NB w3 w.heap.size (.int .i64 11) (.string wd) (.string un) (.slice ka kids.length kc)):=A2.o.below hb3;have S3:Hid (Sl (fun b=>b<B) w3 (.slice ka kids.length kc) kids):=S2.o.below hb3 oo;have hs3:=B3.o.size;clear hb3 S2;refine hK.o _ _ A3.o (fun _=>?_);clear hK K;refine bY 2 rfl A3.o (by intro w hSw;go_simp;rw[if_neg oa]) ?_;refine jh 5 fun K hK=>?_;go_simp;refine(HR.o B _ w3 S3.o oo hz).mono ?_;rw[Pn.o];rintro e w4 ⟨rfl,hb4⟩;have B4:Hid (Below w.heap.size w w4):=B3.o.trans (hb4.mono hs3);have A4:Hid (NB w4 w.heap.size (.int .i64 11) (.string wd) (.string un) (.slice ka kids.length kc)):=A3.o.below hb4;clear hb4;refine hK.o _ _ A4.o (fun _=>?_);clear hK K
 refine bY 6 rfl A4.o (by intro w hSw;go_simp;rw[if_neg oa]) ?_;refine bY 7 rfl A4.o (by intro w hSw;go_simp;rw[if_neg oa]) ?_;refine jh 8 fun K hK=>?_;go_simp;refine hK.o _ _ (A4.o) (fun _=>?_);clear hK K;refine wpAnyH_done (by kernel_rfl) ?_ _;go_wp2_with fail;go_ret;exact⟨iW HV.o,B4.o⟩
theorem abJ(hrec:xP kids)(hk:Sl (fun b=>b<B) w (.slice ka kids.length kc) kids)(hB:B<=w.heap.size)(hz:fB kids<=549755813888)(hw:wd.size<=4000000):Calls prog 111 #[.agg #[.int .i64 15,.string wd,.string un,.slice ka kids.length kc]] w fun e w'=>e=.returned (.string (wd++(Sp.written kids++closing ⟨15,wd,un⟩)))/\Below w.heap.size w w':=by
 have B2:Hid (Below w.heap.size w (w.alloc (.cells #[.int .i64 15,.string wd,.string un,.slice ka kids.length kc] 134)).drew):=nN _ _;have A2:Hid (NB (w.alloc (.cells #[.int .i64 15,.string wd,.string un,.slice ka kids.length kc] 134)).drew w.heap.size (.int .i64 15) (.string wd) (.string un) (.slice ka kids.length kc)):=NB.new _ _ _ _ _;have S2:Hid (Sl (fun b=>b<B) (w.alloc (.cells #[.int .i64 15,.string wd,.string un,.slice ka kids.length kc] 134)).drew (.slice ka kids.length kc) kids):=hk.below B2.o hB;have HR:Hid (xP kids):=hrec;clear hk hrec;obtain⟨cl,Yv⟩:∃cl,Hid (closing ⟨15,wd,un⟩=cl):=⟨_,hid rfl⟩;obtain⟨wr,Pn⟩:∃wr,Hid (Sp.written kids=wr):=⟨_,hid rfl⟩;have HV:Hid ((wd++wr)++cl=wd++(Sp.written kids++closing ⟨15,wd,un⟩)):=by show _=_;rw[Yv.o,Pn.o,ByteArray.append_assoc]
 have hsz:cl.size<=1:=by rw[<-Yv.o];exact sV _
 have hsw:wr.size<=fB kids:=by rw[<-Pn.o];exact gZ kids
 have HCl:=qN ⟨15,wd,un⟩;rw[Yv.o]at HCl;have HC:Hid (∀(w:World),Calls prog 76 #[.agg #[.int .i64 15,.string wd,.string un]] w fun e w'=>e=.returned (.string cl)/\Below w.heap.size w w'):=HCl;clear HCl;go_in;go_wp2_with fail;refine wp_region_any (by kernel_rfl) ?_;change wpAny _ _ _ _ _ _ _ (World.drew _);generalize(w.alloc (.cells #[.int .i64 15,.string wd,.string un,.slice ka kids.length kc] 134)).drew=w2 at *;have hs2:=B2.o.size;refine wpAny_of_held (S:=fun wx=>NB wx w.heap.size (.int .i64 15) (.string wd) (.string un) (.slice ka kids.length kc)) _ _ _ _ ?_;refine bY 0 rfl A2.o (by intro w hSw;obtain⟨a0,a1,a2,a3⟩:=NB.cs hSw;exact gs) ?_;refine bY 1 rfl A2.o (by intro w hSw;obtain⟨a0,a1,a2,a3⟩:=NB.cs hSw;exact gs) ?_
 refine bY 2 rfl A2.o (by intro w hSw;obtain⟨a0,a1,a2,a3⟩:=NB.cs hSw;exact gs) ?_;refine bY 5 rfl A2.o (by intro w hSw;obtain⟨a0,a1,a2,a3⟩:=NB.cs hSw;exact gs) ?_;refine bY 6 rfl A2.o (by intro w hSw;obtain⟨a0,a1,a2,a3⟩:=NB.cs hSw;exact gs) ?_;refine jh 3 fun K hK=>?_;go_simp;refine(HR.o B _ w2 S2.o oo hz).mono ?_;rw[Pn.o];rintro e w3 ⟨rfl,hb3⟩;have B3:Hid (Below w.heap.size w w3):=B2.o.trans (hb3.mono hs2);have A3:Hid (NB w3 w.heap.size (.int .i64 15) (.string wd) (.string un) (.slice ka kids.length kc)):=A2.o.below hb3;have hs3:=B3.o.size;clear hb3 S2;refine hK.o _ _ A3.o (fun _=>?_);clear hK K;refine bY 4 rfl A3.o (by intro w hSw;go_simp;rw[if_neg oa]) ?_;refine jh 7 fun K hK=>?_;go_simp;refine(HC.o w3).mono ?_
 rintro e w4 ⟨rfl,hb4⟩;have B4:Hid (Below w.heap.size w w4):=B3.o.trans (hb4.mono hs3);have A4:Hid (NB w4 w.heap.size (.int .i64 15) (.string wd) (.string un) (.slice ka kids.length kc)):=A3.o.below hb4;clear hb4;refine hK.o _ _ A4.o (fun _=>?_);clear hK K;refine bY 8 rfl A4.o (by intro w hSw;go_simp;rw[if_neg oa]) ?_;refine jh 9 fun K hK=>?_;go_simp;refine hK.o _ _ (A4.o) (fun _=>?_);clear hK K;refine wpAnyH_done (by kernel_rfl) ?_ _;go_wp2_with fail;go_ret;exact⟨iW HV.o,B4.o⟩
end
theorem WH(n:Nd)(hrec:xP n.kids)(B:Nat)(kv:Value)(w:World)(hk:Sl (fun b=>b<B) w kv n.kids)(hB:B<=w.heap.size)(ht:cZ n.t)(hz:fB n.kids<=549755813888):
  Calls prog 111 #[dM n.t kv] w fun e w'=>e=.returned (.string (iH n))/\Below w.heap.size w w':=by
 obtain⟨⟨kd,wd,un⟩,kids⟩:=n;obtain⟨ka,kc,rfl⟩:=hk.form;have hw:wd.size<=4000000:=ht.word;have hu:un.size<=1000:=ht.unit;have hd:=ht.dim;show Calls prog _ #[.agg #[.int .i64 kd,.string wd,.string un,.slice ka kids.length kc]] w fun e w'=>e=.returned (.string (OL ⟨kd,wd,un⟩ (Sp.written kids)))/\Below w.heap.size w w';have ne:∀k:Int,¬kd=k->(kd==k)=false:=fun k h=>by simpa using h
 unfold OL;by_cases k1:kd=1
 .subst k1;rw[if_pos rfl];exact adi wd un ka kids.length kc w
 rw[if_neg k1];by_cases k2:kd=2
 .subst k2;rw[if_pos rfl];exact adk wd un ka kids.length kc w hw
 rw[if_neg k2];by_cases k3:kd=3
 .subst k3;rw[if_pos rfl];exact adl wd un ka kids.length kc w
 rw[if_neg k3];by_cases k4:kd=4
 .subst k4;rw[if_pos rfl];exact adn wd un ka kids.length kc w hw
 rw[if_neg k4];by_cases k6:kd=6
 .subst k6;rw[if_pos rfl];exact ado wd un ka kids.length kc w hw
 rw[if_neg k6];by_cases k7:kd=7
 .subst k7;rw[if_pos rfl];exact adp wd un ka kids.length kc w hw hu (hd rfl)
 rw[if_neg k7];by_cases k8:kd=8
 .subst k8;rw[if_pos rfl];exact adq wd un ka kids.length kc w
 rw[if_neg k8];by_cases k9:kd=9
 .subst k9;rw[if_pos rfl];exact adr wd un ka kids.length kc w
 rw[if_neg k9];by_cases k10:kd=10
 .subst k10;rw[if_pos rfl];exact abD wd un ka kids.length kc w hw
 rw[if_neg k10];by_cases k11:kd=11
 .subst k11;rw[if_pos rfl];exact abI wd un ka kids kc B w hrec hk hB hz hw
 rw[if_neg k11];by_cases k12:kd=12
 .subst k12;rw[if_pos rfl];exact abE wd un ka kids.length kc w hw
 rw[if_neg k12];by_cases k13:kd=13
 .subst k13;rw[if_pos rfl];exact abG wd un ka kids.length kc w
 rw[if_neg k13];by_cases k14:kd=14
 .subst k14;rw[if_pos rfl];exact abH wd un ka kids.length kc w hw
 rw[if_neg k14];by_cases k15:kd=15
 .subst k15;rw[if_pos rfl];exact abJ wd un ka kids kc B w hrec hk hB hz hw
 rw[if_neg k15];exact ads wd un ka kids.length kc w kd (ne _ k1) (ne _ k2) (ne _ k3) (ne _ k4) (ne _ k6) (ne _ k7) (ne _ k8) (ne _ k9) (ne _ k10) (ne _ k11) (ne _ k12) (ne _ k13) (ne _ k14) (ne _ k15)
end
theorem Ua(a b:Tok):Ei (some a) b=((b.kind==1)&&(a.kind==1)):=by show(decide (a.kind=1)&&decide (b.kind=1))=_;rw[Bool.and_comm];rfl
theorem WI(a b:Tok):parts a b=(!uf a&&!uf b&&((closing a).toList==[])&&!ay b ⟨#[91]⟩&&!ay b ⟨#[123]⟩):=by unfold parts;rw[aH];rfl
theorem Fq(l:List Nd)(hrec:∀n∈l,xP n.kids):xP l:=by
 intro B v w h hB hz;have Cc:=h.len;have HS:Hid (Sl (fun b=>b<B) w v l):=h;have HR:Hid (∀n∈l,xP n.kids):=hrec;obtain⟨a,cap,rfl⟩:=h.form;clear h hrec;have HZ:Hid ((Sp.written l).size<=549755813888):=Nat.le_trans (gZ l) hz;go_in;go_wp2_with fail;go_loopg[3,4] l.length (fun gg v3 v4 wr=>∃(acc:ByteArray) (i:Nat),v3=.string acc/\v4=.int .i64 (i:Int)/\i+gg=l.length/\Aside (Sp.written l=acc++lQ (jQ l i) (l.drop i)/\Below w.heap.size w wr));case atStart=>exact⟨⟨#[]⟩,0,rfl,rfl,oo,by show _=aA++_;rw[dP];rfl,Below.refl _ _⟩
 case round=>
  obtain⟨acc,i,rfl,rfl,hi,hA⟩:=hrel;have HC:Hid (Sp.written l=acc++lQ (jQ l i) (l.drop i)/\Below w.heap.size w wr):=hA.o;clear hA;have hsr:=HC.o.2.size;have hacc:acc.size<=549755813888:=by have:=HZ.o;rw[HC.o.1,ByteArray.size_append]at this;omega
  by_cases hlt:i<l.length
  .have h1:(i:Int)<(l.length:Int):=oo;have S1:=HS.o.below HC.o.2 hB;obtain⟨g,o,rfl,hL,hcap⟩:=S1.here (by rintro rfl;simp at hlt);obtain⟨kv,hN⟩:=hL.node (i:=i) hlt;have HLL:Hid (eP (fun b=>b<B) wr l g o):=hL;obtain⟨n,hn⟩:∃n,n=l[i]:=⟨_,rfl⟩;have HM:Hid (n∈l):=by rw[hn];exact List.getElem_mem _
   have HW:=MB hlt;rw[<-hn]at hN HW;have HEW:Hid (lQ (jQ l i) (l.drop i)=(if Ei (jQ l i) n.t=true then aA else uy (jQ l i) n.t++iH n)++lQ (jQ l (i+1)) (l.drop (i+1))):=HW;have sQ:Hid (cZ n.t):=hN.ok;have KH:Hid (Sl (fun b=>b<B) wr kv n.kids):=hN.k;have Wi:Hid (fB n.kids<=549755813888):=Nat.le_trans (MF n) (Nat.le_trans (nS l n HM.o) hz);obtain⟨ka,kc,rfl⟩:=hN.k.form;have hgB:g<B:=hN.s;have Gy:Hid (∀wq,Below wr.heap.size wr wq->wq.cell? ⟨g,o+i*4,none⟩=some (.int .i64 n.t.kind)/\wq.cell? ⟨g,o+i*4+1,none⟩=some (.string n.t.word)/\wq.cell? ⟨g,o+i*4+2,none⟩=some (.string n.t.unit)/\wq.cell? ⟨g,o+i*4+3,none⟩=some (.slice ka n.kids.length kc)):=fun wq hb=>by have e:∀x,wq.cell? ⟨g,x,none⟩=wr.cell? ⟨g,x,none⟩:=fun x=>hb.cell (p:=⟨g,x,none⟩) (show g<wr.heap.size by omega);rw[e,e,e,e];exact⟨hN.c0,hN.c1,hN.c2,hN.c3⟩
   clear hN hL S1 HW hn;have X0:Hid (Below wr.heap.size wr wr):=Below.refl _ _;by_cases h0:i=0
   .have hi0:(i:Int)<=0:=oo;have HP:Hid (jQ l i=none):=by show _=_;rw[h0];rfl
    clear h0;have qU:Hid (Sp.written l=(acc++iH n)++lQ (jQ l (i+1)) (l.drop (i+1))):=by show _=_;rw[HC.o.1,HEW.o,HP.o,if_neg (by simp[Ei])];show _=_;rw[show uy none n.t=aA from rfl,dP,ByteArray.append_assoc]
    have KX:Hid (Sl (fun b=>b<B) wr (.slice ka n.kids.length kc) n.kids):=KH.o.below X0.o oo;have BX:Hid (Below w.heap.size w wr):=HC.o.2.trans (X0.o.mono hsr);have hsX:=BX.o.size;obtain⟨on,Hon⟩:∃on,Hid (iH n=on):=⟨_,hid rfl⟩;rw[Hon.o]at qU;have hsz:acc.size+on.size<=549755813888:=by have:=HZ.o;rw[qU.o,ByteArray.size_append,ByteArray.size_append]at this;omega
    obtain⟨e0,e1,e2,e3⟩:=Gy.o _ X0.o;skip;go_wp2_with fail;refine(WH n (HR.o n HM.o) B _ wr KX.o oo sQ.o Wi.o).mono ?_;rw[Hon.o];rintro e w7 ⟨rfl,hb7⟩;have B7:Hid (Below w.heap.size w w7):=BX.o.trans (hb7.mono hsX);clear hb7 e0 e1 e2 e3;go_wp2_with fail;go_roundg(gk-1);case measure=>omega
    case rel=>exact⟨acc++on,i+1,rfl,by congr 1,oo,qU.o,B7.o⟩
   .have hi0:(0:Int)<(i:Int):=oo;obtain⟨k,Hk⟩:∃k,Hid (i-1=k):=⟨_,hid rfl⟩;have hkl:k<l.length:=by have:=Hk.o;omega
    obtain⟨kvm,hM⟩:=HLL.o.node (i:=k) hkl;obtain⟨m,hm⟩:∃m,m=l[k]:=⟨_,rfl⟩;have HP:Hid (jQ l i=some m.t):=by show _=_;rw[MC hlt oo,hm];simp only[Hk.o]
    rw[<-hm]at hM;obtain⟨kma,kmc,rfl⟩:=hM.k.form;have Yx:Hid (∀wq,Below wr.heap.size wr wq->wq.cell? ⟨g,o+k*4,none⟩=some (.int .i64 m.t.kind)/\wq.cell? ⟨g,o+k*4+1,none⟩=some (.string m.t.word)/\wq.cell? ⟨g,o+k*4+2,none⟩=some (.string m.t.unit)/\wq.cell? ⟨g,o+k*4+3,none⟩=some (.slice kma m.kids.length kmc)):=fun wq hb=>by have e:∀x,wq.cell? ⟨g,x,none⟩=wr.cell? ⟨g,x,none⟩:=fun x=>hb.cell (p:=⟨g,x,none⟩) (show g<wr.heap.size by omega);rw[e,e,e,e];exact⟨hM.c0,hM.c1,hM.c2,hM.c3⟩
    clear hM hm;have hk1:(i:Int)-1=(k:Int):=by have:=Hk.o;omega
    have hwk:IntKind.i64.wrap ((i:Int)-1)=(k:Int):=by rw[IntKind.wrap_i64];omega
    have hkI:(k:Int)<(l.length:Int):=oo;have hk0:(0:Int)<=(k:Int):=oo;obtain⟨tw,Htw⟩:∃tw,Hid (Ei (some m.t) n.t=tw):=⟨_,hid rfl⟩;have HTE:Hid (Ei (some m.t) n.t=((n.t.kind==1)&&(m.t.kind==1))):=Ua _ _;rw[HP.o]at HEW;obtain⟨e0,e1,e2,e3⟩:=Gy.o _ X0.o;obtain⟨f0,f1,f2,f3⟩:=Yx.o _ X0.o;go_upto_region 5 with fail
    go_cut [36] (fun s36 wx=>s36=.bool tw/\wx=wr);case first=>
     cases b1:(n.t.kind==1)
     .go_wp2_with fail;go_meet
      exact⟨by rw[<-Htw.o,HTE.o,b1];rfl,rfl⟩
     .cases b2:(m.t.kind==1)
      .go_wp2_with fail;go_meet
       exact⟨by rw[<-Htw.o,HTE.o,b1,b2];rfl,rfl⟩
      .go_wp2_with fail;go_meet
       exact⟨by rw[<-Htw.o,HTE.o,b1,b2];rfl,rfl⟩
    case rest=>
    obtain⟨rfl,hwc⟩:=hcut;obtain rfl:=hwc.symm;clear HTE;cases tw;case true=>
     have qU:Hid (Sp.written l=acc++lQ (jQ l (i+1)) (l.drop (i+1))):=by show _=_;rw[HC.o.1,HP.o,HEW.o,if_pos Htw.o,dP]
     go_wp2_with fail;go_roundg(gk-1);case measure=>omega
     case rel=>exact⟨acc,i+1,rfl,by congr 1,oo,qU.o,HC.o.2⟩
    case false=>
    have HEG:Hid (Sp.written l=acc++((uy (some m.t) n.t++iH n)++lQ (jQ l (i+1)) (l.drop (i+1)))):=by show _=_;rw[HC.o.1,HP.o,HEW.o,if_neg (by rw[Htw.o];simp)]
    clear HEW;obtain⟨za,Hza⟩:∃z,Hid (uf m.t=z):=⟨_,hid rfl⟩;obtain⟨zb,GK⟩:∃z,Hid (uf n.t=z):=⟨_,hid rfl⟩;obtain⟨cl,Yv⟩:∃c,Hid (closing m.t=c):=⟨_,hid rfl⟩;obtain⟨zd,Hzd⟩:∃z,Hid (ay n.t ⟨#[91]⟩=z):=⟨_,hid rfl⟩;obtain⟨ze,I4⟩:∃z,Hid (ay n.t ⟨#[123]⟩=z):=⟨_,hid rfl⟩;go_wp2_with fail;refine(WG m.t _ _).mono ?_;rw[Hza.o];rintro e w1 ⟨rfl,hb⟩;have X1:Hid (Below wr.heap.size wr w1):=hb;clear hb e0 e1 e2 e3 f0 f1 f2 f3;obtain⟨e0,e1,e2,e3⟩:=Gy.o _ X1.o;go_wp2_with fail;refine(WG n.t _ _).mono ?_;rw[GK.o];rintro e w2 ⟨rfl,hb⟩;have X2:Hid (Below wr.heap.size wr w2):=X1.o.trans (hb.mono X1.o.size);clear hb e0 e1 e2 e3;obtain⟨f0,f1,f2,f3⟩:=Yx.o _ X2.o;go_wp2_with fail;refine(qN m.t _).mono ?_;rw[Yv.o];rintro e w3 ⟨rfl,hb⟩
    have X3:Hid (Below wr.heap.size wr w3):=X2.o.trans (hb.mono X2.o.size);clear hb f0 f1 f2 f3;obtain⟨e0,e1,e2,e3⟩:=Gy.o _ X3.o;go_wp2_with fail;refine(eU n.t _ ⟨#[91]⟩ _).mono ?_;rw[Hzd.o];rintro e w4 ⟨rfl,hb⟩;have X4:Hid (Below wr.heap.size wr w4):=X3.o.trans (hb.mono X3.o.size);clear hb e0 e1 e2 e3;obtain⟨e0,e1,e2,e3⟩:=Gy.o _ X4.o;go_wp2_with fail;refine(eU n.t _ ⟨#[123]⟩ _).mono ?_;rw[I4.o];rintro e w5 ⟨rfl,hb⟩;have X5:Hid (Below wr.heap.size wr w5):=X4.o.trans (hb.mono X4.o.size);clear hb e0 e1 e2 e3;obtain⟨pt,Hpt⟩:∃z,Hid (parts m.t n.t=z):=⟨_,hid rfl⟩;have RD:Hid (pt=(!za&&!zb&&(cl.toList==[])&&!zd&&!ze)):=by show _=_;rw[<-Hpt.o,WI,Hza.o,GK.o,Yv.o,Hzd.o,I4.o]
    go_upto_region 12 with fail
    go_cut [84] (fun s84 wz=>s84=.bool pt/\wz=w5);case first=>
     cases za
     .cases zb
      .cases hc:(cl.toList==([]:List UInt8))
       .go_wp2_with fail;go_meet
        exact⟨by rw[RD.o,hc];rfl,rfl⟩
       .cases zd
        .cases ze
         .go_wp2_with fail;go_meet
          exact⟨by rw[RD.o,hc];rfl,rfl⟩
         .go_wp2_with fail;go_meet
          exact⟨by rw[RD.o,hc];rfl,rfl⟩
        .go_wp2_with fail;go_meet
         exact⟨by rw[RD.o,hc];rfl,rfl⟩
      .go_wp2_with fail;go_meet
       exact⟨by rw[RD.o];rfl,rfl⟩
     .go_wp2_with fail;go_meet
      exact⟨by rw[RD.o];rfl,rfl⟩
    case rest=>
    obtain⟨rfl,hwc⟩:=hcut;obtain rfl:=hwc.symm;clear RD;cases pt;case false=>
     have qU:Hid (Sp.written l=(acc++iH n)++lQ (jQ l (i+1)) (l.drop (i+1))):=by show _=_;rw[HEG.o,show uy (some m.t) n.t=aA from if_neg (by rw[Hpt.o];simp),dP,ByteArray.append_assoc]
     have KX:Hid (Sl (fun b=>b<B) w5 (.slice ka n.kids.length kc) n.kids):=KH.o.below X5.o oo;have BX:Hid (Below w.heap.size w w5):=HC.o.2.trans (X5.o.mono hsr);have hsX:=BX.o.size;obtain⟨on,Hon⟩:∃on,Hid (iH n=on):=⟨_,hid rfl⟩;rw[Hon.o]at qU;have hsz:acc.size+on.size<=549755813888:=by have:=HZ.o;rw[qU.o,ByteArray.size_append,ByteArray.size_append]at this;omega
     obtain⟨e0,e1,e2,e3⟩:=Gy.o _ X5.o;skip;go_wp2_with fail;refine(WH n (HR.o n HM.o) B _ w5 KX.o oo sQ.o Wi.o).mono ?_;rw[Hon.o];rintro e w7 ⟨rfl,hb7⟩;have B7:Hid (Below w.heap.size w w7):=BX.o.trans (hb7.mono hsX);clear hb7 e0 e1 e2 e3;go_wp2_with fail;go_roundg(gk-1);case measure=>omega
     case rel=>exact⟨acc++on,i+1,rfl,by congr 1,oo,qU.o,B7.o⟩
    case true=>
     have qU:Hid (Sp.written l=((acc++mg)++iH n)++lQ (jQ l (i+1)) (l.drop (i+1))):=by show _=_;rw[HEG.o,show uy (some m.t) n.t=mg from if_pos Hpt.o,ByteArray.append_assoc,ByteArray.append_assoc,ByteArray.append_assoc]
     have KX:Hid (Sl (fun b=>b<B) w5 (.slice ka n.kids.length kc) n.kids):=KH.o.below X5.o oo;have BX:Hid (Below w.heap.size w w5):=HC.o.2.trans (X5.o.mono hsr);have hsX:=BX.o.size;obtain⟨on,Hon⟩:∃on,Hid (iH n=on):=⟨_,hid rfl⟩;rw[Hon.o]at qU;have hsz:(acc++mg).size+on.size<=549755813888:=by have:=HZ.o;rw[qU.o,ByteArray.size_append,ByteArray.size_append]at this;omega
     obtain⟨e0,e1,e2,e3⟩:=Gy.o _ X5.o;have hmid:mg.size=4:=rfl;rw[ByteArray.size_append]at hsz;go_wp2_with fail;refine(WH n (HR.o n HM.o) B _ w5 KX.o oo sQ.o Wi.o).mono ?_;rw[Hon.o];rintro e w7 ⟨rfl,hb7⟩;have B7:Hid (Below w.heap.size w w7):=BX.o.trans (hb7.mono hsX);clear hb7 e0 e1 e2 e3;go_wp2_with fail;go_roundg(gk-1);case measure=>omega
     case rel=>exact⟨(acc++mg)++on,i+1,rfl,by congr 1,oo,qU.o,B7.o⟩
  .have h1:(l.length:Int)<=(i:Int):=oo;have HV:Hid (acc=Sp.written l):=by
    show _=_;rw[HC.o.1,List.drop_of_length_le oo];exact(jL _).symm
   go_wp2_with fail;go_ret;exact⟨iW HV.o,HC.o.2⟩
theorem PS:∀(k:Nat) (l:List Nd),fB l<=k->xP l:=by
 intro k;induction k with
 |zero=>intro l h;refine Fq l fun n hn=>?_;have:=nS l n hn;obtain⟨t,q⟩:=n;unfold GH at this;omega
 |succ k ih=>intro l h;refine Fq l fun n hn=>ih _ ?_;have:=nS l n hn;obtain⟨t,q⟩:=n;unfold GH at this;show fB q<=k;omega
theorem BL(l:List Nd):xP l:=PS _ l nl
end Go.Proofs.YtlliliddljkbfaaGreatDoor
