import Derived.Test.YtlliliddljkbfaaGreatC5
set_option maxHeartbeats 64000000
set_option maxRecDepth 100000
namespace Go.Proofs.YtlliliddljkbfaaGreat
open Go.Proofs.Tryz (prog)
open Go.RowKit Sp
section
attribute [local go_sem] bI bJ aX aY
theorem AL(nm h v:BY)(lv:Av)(p:Nat):fE 91 nm h v lv p=.iface 341 (.agg #[.string nm,.string h,.string v]):=by unfold fE;rw[if_neg oo,if_neg oo,if_neg oo,if_pos rfl]
theorem fV.new{B:Nat}{w:WD}{v:Av}{l:List Nd}(h:Sl (fun k=>k<B) w v l)(hB:B<=w.heap.size):fV B (w.alloc (.cells #[v] 270)) w.heap.size v l:=⟨heap_alloc_new w _,h.below ((Below.refl w.heap.size w).alloc nl _) hB,hB⟩
theorem Turn.over{b:Nat}{w w1 w':WD}(h0:Below w.heap.size w w1)(h:Turn b w1 w')(hb:w.heap.size<=b):Below w.heap.size w w':=h0.trans ⟨h.os,h.tape,h.output,h.size,fun k hk=>h.block k (by have:=h0.size;omega) oo⟩
def akZ(o:Option Simple)(e:Ending):Prop:=
 match o with
 |none=>∃pv,e=.returned (.tuple #[pv,.bool false])
 |some (.mk k nm h v _ p)=>e=.returned (.tuple #[fE k nm h v (.slice none 0 0) p,.bool true])
theorem VN(B:Nat)(l:List Nd)(v:Av)(w:WD)(h:Sl (fun b=>b<B) w v l)(hB:B<=w.heap.size):
  Calls prog 296 #[v] w fun e w'=>akZ (gG (bare l)) e/\Below w.heap.size w w':=by
 have HS:=hid h;clear h;have HE:Hid (gG (bare l)=wW (bare l)):=acB (Qg.YB l);obtain⟨d,Hd⟩:=Nm (bare l);rw[Hd.o]at HE;rw[Hd.o,HE.o];clear HE;obtain⟨a,cap,rfl⟩:=HS.o.form;go_in;go_wp2_with fail;refine(tu B l _ w HS.o).mono ?_;rw[Hd.o];rintro e w1 ⟨v1,rfl,hS1,rfl⟩;obtain⟨va,vc,rfl⟩:=hS1.form;have R1:Hid (fV B (w1.alloc (.cells #[.slice va d.length vc] 270)) w1.heap.size (.slice va d.length vc) d):=fV.new hS1 hB;have B1:Hid (Below w1.heap.size w1 (w1.alloc (.cells #[.slice va d.length vc] 270))):=Ax.alloc nl _;clear hS1 HS;go_upto_region 2 with fail
 generalize w1.alloc (.cells #[.slice va d.length vc] 270)=w2 at *;obtain⟨b,Hb⟩:=Nm w1.heap.size;have R2:Hid (fV B w2 b (.slice va d.length vc) d):=by rw[<-Hb.o];exact R1
 clear R1;rw[Hb.o];obtain⟨n,Hn⟩:=Nm (hdN d);go_wp2_with fail;refine(sN B b _ d _ R2.o).mono ?_;rw[Hn.o];rintro e w3 ⟨kv3,Em,rfl,hk3,D7,Ox⟩;obtain⟨ka,kc,rfl⟩:=hk3.form;have T3:=hid Ox;have R3:=hid D7;clear hk3 D7 Ox R2;unfold fB;have A4:Hid (VB (w3.alloc (.cells #[.int .i64 n.t.kind,.string n.t.word,.string n.t.unit,.slice ka n.kids.length kc] 199)) w3.heap.size (.int .i64 n.t.kind) (.string n.t.word) (.string n.t.unit) (.slice ka n.kids.length kc)):=VB.new _ _ _ _ _;have R4:Hid (fV B (w3.alloc (.cells #[.int .i64 n.t.kind,.string n.t.word,.string n.t.unit,.slice ka n.kids.length kc] 199)) b Em d.tail):=R3.o.alloc _;have T4:Hid (Turn b w2 (w3.alloc (.cells #[.int .i64 n.t.kind,.string n.t.word,.string n.t.unit,.slice ka n.kids.length kc] 199))):=T3.o.alloc _;have hb3:b<w3.heap.size:=R3.o.lt
 clear R3 T3;go_upto_region 3 with fail
 generalize w3.alloc (.cells #[.int .i64 n.t.kind,.string n.t.word,.string n.t.unit,.slice ka n.kids.length kc] 199)=w4 at *;generalize w3.heap.size=gn at *;obtain⟨r1,Hr1⟩:=Nm (aH d.tail);go_wp2_with fail;refine(y7 B b _ _ _ R4.o).mono ?_;rw[Hr1.o];rintro e w5 ⟨sv5,rfl,hR5,hT5⟩;have R5:=hid hR5;have T5:=hid (T4.o.trans hT5);have A5:=hid (A4.o.turn hT5 oo);clear hR5 hT5 R4 T4 A4;go_wp2_with fail;refine(vg B b _ _ _ R5.o).mono ?_;rintro e w6 ⟨rfl,rfl⟩;obtain⟨a0,a1,a2,a3⟩:=A5.o.cs;by_cases hr1:r1=[]
 .subst hr1;cases hk:(n.t.kind==14)
  .have HV:Hid (wW d=none):=by
    show _=_;unfold wW;rw[if_pos Hr1.o,Hn.o,if_neg (by simpa using hk)]
   go_wp2_with fail;go_quiet (fail)
   go_wp2_with fail;go_ret2
   exact⟨by rw[HV.o];exact⟨_,rfl⟩,Turn.over B1.o (T5.o.drewN _) (by rw[Hb.o];exact Nat.le_refl _)⟩
  .have HV:Hid (wW d=some (.mk 91 n.t.word aA aA [] 0)):=by
    show _=_;unfold wW;rw[if_pos Hr1.o,Hn.o,if_pos (by simpa using hk)];rfl
   go_wp2_with fail;go_quiet (fail)
   go_wp2_with fail;go_ret2
   exact⟨by rw[HV.o];show _=_;rw[AL];rfl,Turn.over B1.o (T5.o.drewN _) (by rw[Hb.o];exact Nat.le_refl _)⟩
 .have hl1:(r1.length==0)=false:=by
   cases r1 with
   |nil=>exact absurd rfl hr1
   |cons x y=>rfl
  have HV:Hid (wW d=if Le n.t.kind (um r1)=true then some (.mk 91 n.t.word (Iu r1++b1 61) (hdN (aH (zy (b1 61) (um r1)))).t.word [] 0) else none):=by show _=_;unfold wW QS;rw[if_neg (by rw[Hr1.o];exact hr1),Hn.o,Hr1.o]
  clear hr1;obtain⟨how,ak0⟩:=Nm (Iu r1++b1 61);obtain⟨l2,Hl2⟩:=Nm (um r1);obtain⟨eq,Heq⟩:=Nm (au (hdN l2).t (b1 61));obtain⟨l4,Hl4⟩:=Nm (aH (zy (b1 61) l2));obtain⟨m,Hm⟩:=Nm (hdN l4);have HQ:Hid (Le n.t.kind (um r1)=((eq&&((n.t.kind==14)&&(m.t.kind==14||m.t.kind==2)))&&(l4.tail.length==0))):=by show _=_;unfold Le;rw[Hl2.o,Heq.o,Hl4.o,Hm.o]
  have HV2:Hid (wW d=if ((eq&&((n.t.kind==14)&&(m.t.kind==14||m.t.kind==2)))&&(l4.tail.length==0))=true then some (.mk 91 n.t.word how m.t.word [] 0) else none):=by show _=_;rw[HV.o,HQ.o,ak0.o,Hl2.o,Hl4.o,Hm.o]
  clear HV HQ;go_wp2_with fail;refine(VK B b _ _ _ R5.o).mono ?_;rw[ak0.o,Hl2.o,Heq.o];rintro e w7 ⟨sv7,rfl,hR7,hT7⟩;have R7:=hid hR7;have T7:=hid (T5.o.trans hT7);have A7:=hid (A5.o.turn hT7 oo);clear hR7 hT7 R5 T5 A5 a0 a1 a2 a3;go_wp2_with fail;refine(y7 B b _ _ _ R7.o).mono ?_;rw[Hl4.o];rintro e w8 ⟨sv8,rfl,hR8,hT8⟩;have R8:=hid hR8;have T8:=hid (T7.o.trans hT8);have A8:=hid (A7.o.turn hT8 oo);clear hR8 hT8 R7 T7 A7;go_wp2_with fail;refine(sN B b _ _ _ R8.o).mono ?_;rw[Hm.o];rintro e w9 ⟨kv9,sv9,rfl,hk9,hR9,hT9⟩;obtain⟨ma,mc,rfl⟩:=hk9.form
  have R9:=hid hR9;have T9:=hid (T8.o.trans hT9);have A9:=hid (A8.o.turn hT9 oo);clear hk9 hR9 hT9 R8 T8 A8;unfold fB;have M10:Hid (VB (w9.alloc (.cells #[.int .i64 m.t.kind,.string m.t.word,.string m.t.unit,.slice ma m.kids.length mc] 199)) w9.heap.size (.int .i64 m.t.kind) (.string m.t.word) (.string m.t.unit) (.slice ma m.kids.length mc)):=VB.new _ _ _ _ _;have R10:Hid (fV B (w9.alloc (.cells #[.int .i64 m.t.kind,.string m.t.word,.string m.t.unit,.slice ma m.kids.length mc] 199)) b sv9 l4.tail):=R9.o.alloc _;have T10:Hid (Turn b w2 (w9.alloc (.cells #[.int .i64 m.t.kind,.string m.t.word,.string m.t.unit,.slice ma m.kids.length mc] 199))):=T9.o.alloc _
  have A10:Hid (VB (w9.alloc (.cells #[.int .i64 m.t.kind,.string m.t.word,.string m.t.unit,.slice ma m.kids.length mc] 199)) gn (.int .i64 n.t.kind) (.string n.t.word) (.string n.t.unit) (.slice ka n.kids.length kc)):=A9.o.alloc _;clear R9 T9 A9;go_upto_region 9 with fail
  generalize w9.alloc (.cells #[.int .i64 m.t.kind,.string m.t.word,.string m.t.unit,.slice ma m.kids.length mc] 199)=w10 at *;generalize w9.heap.size=gm at *;obtain⟨a0,a1,a2,a3⟩:=A10.o.cs;obtain⟨c0,c1,c2,c3⟩:=M10.o.cs;cases eq
  .have HN:Hid (wW d=none):=by show _=_;rw[HV2.o];rfl
   go_wp2_with fail;go_ret2
   exact⟨by rw[HN.o];exact⟨_,rfl⟩,Turn.over B1.o T10.o (by rw[Hb.o];exact Nat.le_refl _)⟩
  .cases kn:(n.t.kind==14)
   .have HN:Hid (wW d=none):=by show _=_;rw[HV2.o];simp[kn]
    go_wp2_with fail;go_ret2
    exact⟨by rw[HN.o];exact⟨_,rfl⟩,Turn.over B1.o T10.o (by rw[Hb.o];exact Nat.le_refl _)⟩
   .cases v14:(m.t.kind==14)
    .cases v2:(m.t.kind==2)
     .have HN:Hid (wW d=none):=by show _=_;rw[HV2.o];simp[kn,v14,v2]
      go_wp2_with fail;go_ret2
      exact⟨by rw[HN.o];exact⟨_,rfl⟩,Turn.over B1.o T10.o (by rw[Hb.o];exact Nat.le_refl _)⟩
     .go_wp2_with fail;refine(vg B b _ _ _ R10.o).mono ?_;rintro e w11 ⟨rfl,rfl⟩;obtain⟨z,Hz⟩:=Nm ((l4.tail.length==0));rw[Hz.o];cases z
      .have HN:Hid (wW d=none):=by show _=_;rw[HV2.o,Hz.o];simp
       go_wp2_with fail;go_ret2
       exact⟨by rw[HN.o];exact⟨_,rfl⟩,Turn.over B1.o T10.o (by rw[Hb.o];exact Nat.le_refl _)⟩
      .have HN:Hid (wW d=some (.mk 91 n.t.word how m.t.word [] 0)):=by show _=_;rw[HV2.o,Hz.o];simp[kn,v14,v2]
       go_wp2_with fail;go_ret2
       exact⟨by rw[HN.o];show _=_;rw[AL];rfl,Turn.over B1.o T10.o (by rw[Hb.o];exact Nat.le_refl _)⟩
    .go_wp2_with fail;refine(vg B b _ _ _ R10.o).mono ?_;rintro e w11 ⟨rfl,rfl⟩;obtain⟨z,Hz⟩:=Nm ((l4.tail.length==0));rw[Hz.o];cases z
     .have HN:Hid (wW d=none):=by show _=_;rw[HV2.o,Hz.o];simp
      go_wp2_with fail;go_ret2
      exact⟨by rw[HN.o];exact⟨_,rfl⟩,Turn.over B1.o T10.o (by rw[Hb.o];exact Nat.le_refl _)⟩
     .have HN:Hid (wW d=some (.mk 91 n.t.word how m.t.word [] 0)):=by show _=_;rw[HV2.o,Hz.o];simp[kn,v14]
      go_wp2_with fail;go_ret2
      exact⟨by rw[HN.o];show _=_;rw[AL];rfl,Turn.over B1.o T10.o (by rw[Hb.o];exact Nat.le_refl _)⟩
end
def Iy(l:List Nd)(i:Nat)(e:Ending):Prop:=
 match gU (l.drop i)with
 |none=>∃k:Nat,e=.returned (.tuple #[.int .u8 0,.int .i64 (k:Int)])
 |some (c,r)=>∃k:Nat,e=.returned (.tuple #[.int .u8 (c:Int),.int .i64 (k:Int)])/\i<k/\k<=l.length/\l.drop k=r/\0<c/\c<256
def ak1(k:Nat)(nm h v:BY)(lv:Av)(p:Nat):Av:=.agg #[.int .u8 (k:Int),.string nm,.string h,.string v,lv,.int .i64 (p:Int)]
def ak2(k:Nat)(nm h v:BY)(lv:Av)(p:Nat):List Av:=[.int .u8 (k:Int),.string nm,.string h,.string v,lv,.int .i64 (p:Int)]
def amu(D:wV Simple):wV Step:=fun S w s cs=>∃av,cs=[.int .u8 (s.1:Int),av]/\SG D 6 S w av s.2
def CCx(D:wV Simple):wV (List Step):=One (amu D) 2
def amv:Nat->wV Simple
 |0=>fun _ _ s cs=>match s with|.mk k nm h v l p=>l=[]/\∃a c,cs=ak2 k nm h v (.slice a 0 c) p
 |n+1=>fun S w s cs=>match s with|.mk k nm h v l p=>∃lv,cs=ak2 k nm h v lv p/\SG (CCx (amv n)) 1 S w lv l
def dX:Nat->List Nd->Option bY
 |0=>fun _=>none
 |f+1=>lM f
theorem agb(f:Nat)(l:List Nd):lM f l=oz (dX f) l:=by cases f<;>rfl
def CU(l:List Nd)(e:Ending):Prop:=
 (gG l=none/\e=.returned (.tuple #[ak1 0 aA aA aA (.slice none 0 0) 0,.bool false])) \/
 ∃nm h v,gG l=some (.mk 91 nm h v [] 0)/\e=.returned (.tuple #[ak1 91 nm h v (.slice none 0 0) 0,.bool true])
section
attribute [local go_sem] bI bJ aX aY
theorem QT{nm:BY}(h:stB nm=true)(lv:Av)(p:Nat):fE 58 nm aA aA lv p=.iface 343 (.agg #[.string nm]):=by
 have h':nm=BL\/nm=uY\/nm=BM\/nm=Eh:=by simpa[stB]using h
 unfold fE;rw[if_neg oo,if_neg oo,if_neg oo,if_neg oo];rcases h' with rfl|rfl|rfl|rfl<;>(rw[if_neg (by decide),if_neg (by decide),if_neg (by decide)])
theorem aai(lv:Av)(p:Nat):fE 58 nD aA aA lv p=.iface 345 (.agg #[lv]):=by unfold fE;rw[if_neg oo,if_neg oo,if_neg oo,if_neg oo,if_pos rfl]
theorem acC(lv:Av)(p:Nat):fE 58 DY aA aA lv p=.iface 346 (.agg #[lv]):=by unfold fE;rw[if_neg oo,if_neg oo,if_neg oo,if_neg oo,if_neg (by decide),if_pos rfl]
def stP(f:Nat)(o:Option Simple)(w w':WD)(e:Ending):Prop:=
 match o with
 |none=>∃pv,e=.returned (.tuple #[pv,.bool false])
 |some s=>∃pv,e=.returned (.tuple #[pv,.bool true])/\aQ f (oD w.heap.size w') w' s [pv]
def rdP(f:Nat)(l:List Nd)(w w':WD)(e:Ending):Prop:=
 match lM f l with
 |none=>e=.returned (.tuple #[.slice none 0 0,.bool false])
 |some ss=>∃sv,e=.returned (.tuple #[sv,.bool true])/\SG (AA (aQ f)) 1 (oD w.heap.size w') w' sv ss
def vK(f:Nat):Prop:=∀(B:Nat) (l:List Nd) (v:Av) (w:WD),depth l<=f->Sl (fun b=>b<B) w v l->B<=w.heap.size->Calls prog 73 #[v] w fun e w'=>rdP f l w w' e/\Below w.heap.size w w'
def Lh:Nat->Prop
 |0=>True
 |f+1=>vK f
theorem VO{rec:List Nd->Option bY}{n:Nd}(h:n.t.kind=14):bM rec n=if stB (small n.t.word)=true then some (Simple.of 58 (small n.t.word)) else none:=by unfold bM;simp only[if_pos h,stB,decide_eq_true_eq]
theorem Iz{rec:List Nd->Option bY}{n:Nd}(h:¬n.t.kind=14)(h2:¬n.t.kind=11):bM rec n=none:=by unfold bM;simp only[if_neg h];rw[if_pos h2]
theorem QU{rec:List Nd->Option bY}{n:Nd}(h2:n.t.kind=11)(h:small n.t.word=nG):bM rec n=(zD n.kids).map (fun p=>.mk 58 nG aA aA [] p):=by
 unfold bM;simp only[if_neg (show ¬n.t.kind=14 by omega)];rw[if_neg oo,h,if_neg (by decide),if_pos rfl];unfold zD aag;cases bare n.kids with
 |nil=>rfl
 |cons x r=>cases r<;>rfl
theorem CV{rec:List Nd->Option bY}{n:Nd}(h2:n.t.kind=11)(h:small n.t.word=nD\/small n.t.word=DY):bM rec n=(rec n.kids).map (fun l=>.mk 58 (small n.t.word) aA aA l 0):=by unfold bM;simp only[if_neg (show ¬n.t.kind=14 by omega)];rw[if_neg oo,if_pos h]
theorem Lj{rec:List Nd->Option bY}{n:Nd}(h2:n.t.kind=11)(h:¬small n.t.word=nD)(h':¬small n.t.word=DY)(h3:¬small n.t.word=nG):bM rec n=none:=by unfold bM;simp only[if_neg (show ¬n.t.kind=14 by omega)];rw[if_neg oo,if_neg (fun q=>q.elim h h'),if_neg h3]
theorem xO{w1 w2 w':WD}(h:w1.heap.size<=w2.heap.size):∀g,oD w2.heap.size w' g->oD w1.heap.size w' g:=fun _ hg=>⟨by have:=hg.1;omega,hg.2⟩
theorem QV(f:Nat)(hR:Lh f)(B:Nat)(n:Nd)(kv:Av)(w:WD)(hwd:n.t.word.size<=4000000)(hS:Sl (fun b=>b<B) w kv n.kids)(hB:B<=w.heap.size)(hd:n.t.kind=11->depth n.kids+1<=f):
  Calls prog 297 #[fB n.t kv] w fun e w'=>stP f (bM (dX f) n) w w' e/\Below w.heap.size w w':=by
 have HR:=hid hR;have HD:Hid (n.t.kind=11->depth n.kids+1<=f):=hd;obtain⟨ka,kc,rfl⟩:=hS.form;have A1:Hid (VB (w.alloc (.cells #[.int .i64 n.t.kind,.string n.t.word,.string n.t.unit,.slice ka n.kids.length kc] 199)) w.heap.size (.int .i64 n.t.kind) (.string n.t.word) (.string n.t.unit) (.slice ka n.kids.length kc)):=VB.new _ _ _ _ _;have B1:Hid (Below w.heap.size w (w.alloc (.cells #[.int .i64 n.t.kind,.string n.t.word,.string n.t.unit,.slice ka n.kids.length kc] 199))):=Ax.alloc nl _;have S1:=hid (hS.below B1.o hB);clear hR hd hS;obtain⟨nm,Aw⟩:=Nm (small n.t.word);unfold fB;go_in;go_upto_region 1 with fail
 generalize w.alloc (.cells #[.int .i64 n.t.kind,.string n.t.word,.string n.t.unit,.slice ka n.kids.length kc] 199)=w1 at *;obtain⟨gt,mV⟩:=Nm w.heap.size;have A2:Hid (VB w1 gt (.int .i64 n.t.kind) (.string n.t.word) (.string n.t.unit) (.slice ka n.kids.length kc)):=by rw[<-mV.o];exact A1
 rw[mV.o];clear A1;obtain⟨a0,a1,a2,a3⟩:=A2.o.cs;go_wp2_with fail;refine(nH n.t.word _ oo).mono ?_;rw[Aw.o];rintro e w2 ⟨rfl,hb2⟩;have hs1:=B1.o.size;have A3:=hid (A2.o.below hb2);have B3:=hid (B1.o.trans (hb2.mono hs1));have S3:=hid (S1.o.below hb2 oo);clear hb2 A2 B1 S1 a0 a1 a2 a3;obtain⟨a0,a1,a2,a3⟩:=A3.o.cs;have hs3:=B3.o.size;cases FX:(n.t.kind==14)
 .cases ak3:(n.t.kind != 11)
  .have e11:n.t.kind=11:=by simpa using ak3
   have E11:=hid e11;clear e11;cases agc:(nm.toList==[110,116,104,45,99,104,105,108,100])
   .have n3:¬nm=nG:=by rw[ay]at agc;simpa[nG]using agc
    cases hnot:(nm.toList==[110,111,116])
    .have n1:¬nm=nD:=by rw[ay]at hnot;simpa[nD]using hnot
     cases his:(nm.toList==[105,115])
     .have n2:¬nm=DY:=by rw[ay]at his;simpa[DY]using his
      have HV:Hid (bM (dX f) n=none):=Lj E11.o (by rw[Aw.o];exact n1) (by rw[Aw.o];exact n2) (by rw[Aw.o];exact n3);clear n1 n2 n3;go_wp2_with fail;go_ret2
      exact⟨by rw[HV.o];exact⟨_,rfl⟩,B3.o⟩
     .have n2:nm=DY:=by rw[ay]at his;simpa[DY]using his
      obtain⟨g,rfl⟩:∃g,f=g+1:=⟨f-1,by have:=HD.o E11.o;omega⟩;have HV:Hid (bM (dX (g+1)) n=(lM g n.kids).map (fun l=>.mk 58 DY aA aA l 0)):=by have:=CV (rec:=dX (g+1)) E11.o (.inr (by rw[Aw.o];exact n2));rw[Aw.o,n2]at this;exact this
      clear n1 n2 n3;go_wp2_with fail;refine(HR.o B n.kids _ w2 (by have:=HD.o E11.o;omega) S3.o oo).mono ?_;rintro e w4 ⟨hp,hb4⟩;have B4:=hid (B3.o.trans (hb4.mono hs3));clear hb4;unfold rdP at hp;cases hsel:lM g n.kids with
      |none=>
       rw[hsel]at hp;subst hp;have HN:Hid (bM (dX (g+1)) n=none):=by show _=_;rw[HV.o,hsel];rfl
       clear hsel;go_wp2_with fail;go_ret2
       exact⟨by rw[HN.o];exact⟨_,rfl⟩,B4.o⟩
      |some ss=>
       rw[hsel]at hp;obtain⟨sv,rfl,hsg⟩:=hp;obtain⟨sa,sc,rfl⟩:=hsg.form;have HN:Hid (bM (dX (g+1)) n=some (.mk 58 DY aA aA ss 0)):=by show _=_;rw[HV.o,hsel];rfl
       have HG:Hid (SG (AA (aQ g)) 1 (oD w.heap.size w4) w4 (.slice sa ss.length sc) ss):=hsg.keep (One.fair (fO.fair (aQ.fair g))) (xO hs3) fun _ _=>rfl;clear hsel hsg;go_wp2_with fail;go_ret2
       exact⟨by rw[HN.o];exact⟨_,rfl,_,by rw[acC];rfl,HG.o⟩,B4.o⟩
    .have n2:nm=nD:=by rw[ay]at hnot;simpa[nD]using hnot
     obtain⟨g,rfl⟩:∃g,f=g+1:=⟨f-1,by have:=HD.o E11.o;omega⟩;have HV:Hid (bM (dX (g+1)) n=(lM g n.kids).map (fun l=>.mk 58 nD aA aA l 0)):=by have:=CV (rec:=dX (g+1)) E11.o (.inl (by rw[Aw.o];exact n2));rw[Aw.o,n2]at this;exact this
     clear n2 n3;go_wp2_with fail;refine(HR.o B n.kids _ w2 (by have:=HD.o E11.o;omega) S3.o oo).mono ?_;rintro e w4 ⟨hp,hb4⟩;have B4:=hid (B3.o.trans (hb4.mono hs3));clear hb4;unfold rdP at hp;cases hsel:lM g n.kids with
     |none=>
      rw[hsel]at hp;subst hp;have HN:Hid (bM (dX (g+1)) n=none):=by show _=_;rw[HV.o,hsel];rfl
      clear hsel;go_wp2_with fail;go_ret2
      exact⟨by rw[HN.o];exact⟨_,rfl⟩,B4.o⟩
     |some ss=>
      rw[hsel]at hp;obtain⟨sv,rfl,hsg⟩:=hp;obtain⟨sa,sc,rfl⟩:=hsg.form;have HN:Hid (bM (dX (g+1)) n=some (.mk 58 nD aA aA ss 0)):=by show _=_;rw[HV.o,hsel];rfl
      have HG:Hid (SG (AA (aQ g)) 1 (oD w.heap.size w4) w4 (.slice sa ss.length sc) ss):=hsg.keep (One.fair (fO.fair (aQ.fair g))) (xO hs3) fun _ _=>rfl;clear hsel hsg;go_wp2_with fail;go_ret2
      exact⟨by rw[HN.o];exact⟨_,rfl,_,by rw[aai];rfl,HG.o⟩,B4.o⟩
   .have n3:nm=nG:=by rw[ay]at agc;simpa[nG]using agc
    have HV:Hid (bM (dX f) n=(zD n.kids).map (fun p=>.mk 58 nG aA aA [] p)):=QU E11.o (by rw[Aw.o];exact n3);clear n3;go_wp2_with fail;refine(QO B n.kids _ w2 S3.o oo).mono ?_;rintro e w4 ⟨hp,hb4⟩;have B4:=hid (B3.o.trans (hb4.mono hs3));clear hb4;rcases hp with⟨hn,pv,rfl⟩|⟨p,hn,rfl⟩
    .have HN:Hid (bM (dX f) n=none):=by show _=_;rw[HV.o,hn];rfl
     clear hn;go_wp2_with fail;go_ret2
     exact⟨by rw[HN.o];exact⟨_,rfl⟩,B4.o⟩
    .have HN:Hid (bM (dX f) n=some (.mk 58 nG aA aA [] p)):=by show _=_;rw[HV.o,hn];rfl
     clear hn;go_wp2_with fail;go_ret2
     exact⟨by rw[HN.o];exact⟨_,rfl,aQ.plain _ _ _ _ _ _ _ _⟩,B4.o⟩
  .have HV:Hid (bM (dX f) n=none):=Iz (by simpa using FX) (by simpa using ak3);go_wp2_with fail;go_ret2
   exact⟨by rw[HV.o];exact⟨_,rfl⟩,B3.o⟩
 .have HV:Hid (bM (dX f) n=if stB nm=true then some (Simple.of 58 nm) else none):=by
   have:=VO (rec:=dX f) (n:=n) (by simpa using FX);rw[Aw.o]at this;exact this
  go_wp2_with fail;refine(aad nm _).mono ?_;rintro e w4 ⟨rfl,rfl⟩;obtain⟨z,Hz⟩:=Nm (stB nm);rw[Hz.o]at HV⊢;cases z
  .go_wp2_with fail;go_ret2
   exact⟨by rw[HV.o];exact⟨_,rfl⟩,B3.o⟩
  .go_wp2_with fail;go_ret2
   refine⟨?_,B3.o⟩;rw[HV.o];refine⟨_,rfl,?_⟩;have:=aQ.plain f (oD w.heap.size w4) w4 58 nm aA aA 0;rw[QT Hz.o]at this;exact this
end
section
attribute [local go_sem] bI bJ aX aY
def iD(rec:List Nd->Option bY)(l:List Nd):Option (Simple×List Nd):=
 if (hdN l).t.kind=4 then some (Simple.of 35 (hdN l).t.word,l.tail)
 else if au (hdN l).t (b1 46)=true then(if (hdN l.tail).t.kind=14 then some (Simple.of 46 (hdN l.tail).t.word,l.tail.tail) else none)
 else if au (hdN l).t (b1 91)=true then(gG (bare (hdN l).kids)).map (fun s=>(s,l.tail))
 else(bM rec (hdN l.tail)).map (fun s=>(s,l.tail.tail))
def ptP(f:Nat)(o:Option (Simple×List Nd))(B b:Nat)(w w':WD)(e:Ending):Prop:=
 match o with
 |none=>∃pv sv l,e=.returned (.tuple #[pv,.bool false])/\fV B w' b sv l
 |some (s,r)=>∃pv sv,e=.returned (.tuple #[pv,.bool true])/\fV B w' b sv r/\aQ f (oD w.heap.size w') w' s [pv]
theorem acD(nm:BY)(lv:Av)(p:Nat):fE 35 nm aA aA lv p=.iface 332 (.agg #[.string nm]):=by unfold fE;rw[if_neg oo,if_pos rfl]
theorem QW(nm:BY)(lv:Av)(p:Nat):fE 46 nm aA aA lv p=.iface 333 (.agg #[.string nm]):=by unfold fE;rw[if_neg oo,if_neg oo,if_pos rfl]
def uo(f:Nat)(l:List Nd):Prop:=∀n∈l,(n.t.kind=11->depth n.kids+1<=f)/\n.t.word.size<=4000000
theorem uo.hd{f:Nat}{l:List Nd}(h:uo f l):((hdN l).t.kind=11->depth (hdN l).kids+1<=f)/\(hdN l).t.word.size<=4000000:=by
 cases l with
 |nil=>exact⟨fun e=>absurd e (by decide),by decide⟩
 |cons n r=>exact h n Ab
theorem uo.tail{f:Nat}{l:List Nd}(h:uo f l):uo f l.tail:=fun n hn=>h n (List.mem_of_mem_tail hn)
theorem ai4(f:Nat)(hR:Lh f)(B b:Nat)(sv:Av)(l:List Nd)(w:WD)(h:fV B w b sv l)(hd:uo f l):
  Calls prog 257 #[.pointer (some ⟨b,0,none⟩)] w fun e w'=>ptP f (iD (dX f) l) B b w w' e/\Turn b w w':=by
 have R1:=hid h;have HR:=hid hR;have HD:Hid (uo f l):=hd;have hbw:b<w.heap.size:=h.lt;have hBb:B<=b:=h.lo;clear h hR hd;obtain⟨n,Hn⟩:=Nm (hdN l);obtain⟨l1,Hl1⟩:=Nm l.tail;have HP:Hid (iD (dX f) l=if n.t.kind=4 then some (Simple.of 35 n.t.word,l1) else if au n.t (b1 46)=true then(if (hdN l1).t.kind=14 then some (Simple.of 46 (hdN l1).t.word,l1.tail) else none) else if au n.t (b1 91)=true then(gG (bare n.kids)).map (fun s=>(s,l1)) else(bM (dX f) (hdN l1)).map (fun s=>(s,l1.tail))):=by show _=_;unfold iD;rw[Hn.o,Hl1.o]
 go_in;go_wp2_with fail;refine(sN B b _ l _ R1.o).mono ?_;rw[Hn.o,Hl1.o];rintro e w2 ⟨kv2,Yv,rfl,hk2,hR2,hT2⟩;obtain⟨ka,kc,rfl⟩:=hk2.form;have T2:=hid hT2;have R2:=hid hR2;have K2:=hid hk2;clear hk2 hR2 hT2 R1;unfold fB;have A3:Hid (VB (w2.alloc (.cells #[.int .i64 n.t.kind,.string n.t.word,.string n.t.unit,.slice ka n.kids.length kc] 199)) w2.heap.size (.int .i64 n.t.kind) (.string n.t.word) (.string n.t.unit) (.slice ka n.kids.length kc)):=VB.new _ _ _ _ _;have R3:Hid (fV B (w2.alloc (.cells #[.int .i64 n.t.kind,.string n.t.word,.string n.t.unit,.slice ka n.kids.length kc] 199)) b Yv l1):=R2.o.alloc _;have T3:Hid (Turn b w (w2.alloc (.cells #[.int .i64 n.t.kind,.string n.t.word,.string n.t.unit,.slice ka n.kids.length kc] 199))):=T2.o.alloc _
 have hb2:b<w2.heap.size:=R2.o.lt;have K3:Hid (Sl (fun k=>k<B) (w2.alloc (.cells #[.int .i64 n.t.kind,.string n.t.word,.string n.t.unit,.slice ka n.kids.length kc] 199)) (.slice ka n.kids.length kc) n.kids):=K2.o.below ((Below.refl w2.heap.size w2).alloc nl _) oo;clear R2 T2 K2;go_upto_region 2 with fail
 generalize w2.alloc (.cells #[.int .i64 n.t.kind,.string n.t.word,.string n.t.unit,.slice ka n.kids.length kc] 199)=w3 at *;generalize w2.heap.size=gn at *;obtain⟨a0,a1,a2,a3⟩:=A3.o.cs;cases hk4:(n.t.kind==4)
 .have n4:¬n.t.kind=4:=by simpa using hk4
  have HP2:Hid (iD (dX f) l=if au n.t (b1 46)=true then(if (hdN l1).t.kind=14 then some (Simple.of 46 (hdN l1).t.word,l1.tail) else none) else if au n.t (b1 91)=true then(gG (bare n.kids)).map (fun s=>(s,l1)) else(bM (dX f) (hdN l1)).map (fun s=>(s,l1.tail))):=by show _=_;rw[HP.o,if_neg n4]
  clear n4 HP;go_wp2_with fail;refine pmb (jf n.t _ (b1 46) _) fun w4 hb4=>?_;have R4:=hid (R3.o.below hb4);have T4:=hid (T3.o.trans (Turn.of_below hb4));have A4:=hid (A3.o.below hb4);have K4:Hid (Sl (fun k=>k<B) w4 (.slice ka n.kids.length kc) n.kids):=K3.o.below hb4 (by have:=R3.o.lt;omega);clear hb4 R3 T3 A3 K3 a0 a1 a2 a3;obtain⟨a0,a1,a2,a3⟩:=A4.o.cs;obtain⟨s1,Az⟩:=Nm (au n.t (b1 46));rw[Az.o]at HP2⊢;cases s1
  .have HP3:Hid (iD (dX f) l=if au n.t (b1 91)=true then(gG (bare n.kids)).map (fun s=>(s,l1)) else(bM (dX f) (hdN l1)).map (fun s=>(s,l1.tail))):=by show _=_;rw[HP2.o];rfl
   clear HP2;go_wp2_with fail;refine pmb (jf n.t _ (b1 91) _) fun w5 hb5=>?_;have R5:=hid (R4.o.below hb5);have T5:=hid (T4.o.trans (Turn.of_below hb5));have A5:=hid (A4.o.below hb5);have K5:Hid (Sl (fun k=>k<B) w5 (.slice ka n.kids.length kc) n.kids):=K4.o.below hb5 (by have:=R4.o.lt;omega);clear hb5 R4 T4 A4 K4 a0 a1 a2 a3;obtain⟨a0,a1,a2,a3⟩:=A5.o.cs;have hb5:b<w5.heap.size:=R5.o.lt;have hw5:w.heap.size<=w5.heap.size:=T5.o.size;obtain⟨s2,Hs2⟩:=Nm (au n.t (b1 91));rw[Hs2.o]at HP3⊢;cases s2
   .have HP4:Hid (iD (dX f) l=(bM (dX f) (hdN l1)).map (fun s=>(s,l1.tail))):=by show _=_;rw[HP3.o];rfl
    clear HP3;obtain⟨m,Hm⟩:=Nm (hdN l1);have HDm:Hid ((m.t.kind=11->depth m.kids+1<=f)/\m.t.word.size<=4000000):=by have:=HD.o.tail;rw[Hl1.o]at this;have:=this.hd;rw[Hm.o]at this;exact this
    rw[Hm.o]at HP4;go_wp2_with fail;refine(sN B b _ l1 _ R5.o).mono ?_;rw[Hm.o];rintro e w6 ⟨kv6,sv6,rfl,hk6,QI,Qe⟩;have R6:=hid QI;have T6:=hid (T5.o.trans Qe);have K6:=hid hk6;have hw6:=T6.o.size;clear QI Qe hk6 R5 T5;go_wp2_with fail;refine(QV f HR.o B m kv6 w6 HDm.o.2 K6.o (by have:=R6.o.lt;omega) HDm.o.1).mono ?_;rintro e w7 ⟨hp,hb7⟩;have R7:=hid (R6.o.below hb7);have T7:=hid (T6.o.trans (Turn.of_below hb7));clear hb7;unfold stP at hp;cases hq:bM (dX f) m with
    |none=>
     rw[hq]at hp;obtain⟨pv,rfl⟩:=hp;have HN:Hid (iD (dX f) l=none):=by show _=_;rw[HP4.o,hq];rfl
     clear hq;go_wp2_with fail;go_ret2
     exact⟨by rw[HN.o];exact⟨_,_,_,rfl,R7.o⟩,T7.o⟩
    |some s=>
     rw[hq]at hp;obtain⟨pv,rfl,hps⟩:=hp;have HN:Hid (iD (dX f) l=some (s,l1.tail)):=by show _=_;rw[HP4.o,hq];rfl
     have HPS:Hid (aQ f (oD w.heap.size w7) w7 s [pv]):=aQ.fair f _ _ _ _ _ _ (xO hw6) (fun _ _=>rfl) hps;clear hq hps;go_wp2_with fail;go_ret2
     exact⟨by rw[HN.o];exact⟨_,_,rfl,R7.o,HPS.o⟩,T7.o⟩
   .have HP4:Hid (iD (dX f) l=(gG (bare n.kids)).map (fun s=>(s,l1))):=by show _=_;rw[HP3.o];rfl
    clear HP3;go_wp2_with fail;refine(VN B n.kids _ w5 K5.o oo).mono ?_;rintro e w7 ⟨hp,hb7⟩;have R7:=hid (R5.o.below hb7);have T7:=hid (T5.o.trans (Turn.of_below hb7));clear hb7;unfold akZ at hp;cases hq:gG (bare n.kids)with
    |none=>
     rw[hq]at hp;obtain⟨pv,rfl⟩:=hp;have HN:Hid (iD (dX f) l=none):=by show _=_;rw[HP4.o,hq];rfl
     clear hq;go_wp2_with fail;go_ret2
     exact⟨by rw[HN.o];exact⟨_,_,_,rfl,R7.o⟩,T7.o⟩
    |some s=>
     have hs0:∃nm h v,s=.mk 91 nm h v [] 0:=by
      rw[acB (Qg.YB _)]at hq;unfold wW at hq;split at hq
      .split at hq
       .cases hq;exact⟨_,_,_,rfl⟩
       .cases hq
      .split at hq
       .cases hq;exact⟨_,_,_,rfl⟩
       .cases hq
     obtain⟨nm,hw,v,rfl⟩:=hs0;rw[hq]at hp;have hp':e=.returned (.tuple #[fE 91 nm hw v (.slice none 0 0) 0,.bool true]):=hp;subst hp';have HN:Hid (iD (dX f) l=some (.mk 91 nm hw v [] 0,l1)):=by show _=_;rw[HP4.o,hq];rfl
     clear hq hp;go_wp2_with fail;go_ret2
     exact⟨by rw[HN.o];exact⟨_,_,rfl,R7.o,aQ.plain _ _ _ _ _ _ _ _⟩,T7.o⟩
  .have HP3:Hid (iD (dX f) l=if (hdN l1).t.kind=14 then some (Simple.of 46 (hdN l1).t.word,l1.tail) else none):=by show _=_;rw[HP2.o];rfl
   clear HP2;obtain⟨m,Hm⟩:=Nm (hdN l1);rw[Hm.o]at HP3;go_wp2_with fail;refine(sN B b _ l1 _ R4.o).mono ?_;rw[Hm.o];rintro e w6 ⟨kv6,sv6,rfl,hk6,QI,Qe⟩;obtain⟨ma,mc,rfl⟩:=hk6.form;have R6:=hid QI;have T6:=hid (T4.o.trans Qe);clear QI Qe hk6 R4 T4;unfold fB;have M7:Hid (VB (w6.alloc (.cells #[.int .i64 m.t.kind,.string m.t.word,.string m.t.unit,.slice ma m.kids.length mc] 199)) w6.heap.size (.int .i64 m.t.kind) (.string m.t.word) (.string m.t.unit) (.slice ma m.kids.length mc)):=VB.new _ _ _ _ _;have R7:Hid (fV B (w6.alloc (.cells #[.int .i64 m.t.kind,.string m.t.word,.string m.t.unit,.slice ma m.kids.length mc] 199)) b sv6 l1.tail):=R6.o.alloc _;have T7:Hid (Turn b w (w6.alloc (.cells #[.int .i64 m.t.kind,.string m.t.word,.string m.t.unit,.slice ma m.kids.length mc] 199))):=T6.o.alloc _
   clear R6 T6;go_upto_region 6 with fail
   generalize w6.alloc (.cells #[.int .i64 m.t.kind,.string m.t.word,.string m.t.unit,.slice ma m.kids.length mc] 199)=w7 at *;generalize w6.heap.size=gm at *;clear a0 a1 a2 a3;obtain⟨a0,a1,a2,a3⟩:=M7.o.cs;cases FX:(m.t.kind==14)
   .have HN:Hid (iD (dX f) l=none):=by show _=_;rw[HP3.o,if_neg (by simpa using FX)]
    go_quiet (fail)
    go_wp2_with fail;go_ret2
    exact⟨by rw[HN.o];exact⟨_,_,_,rfl,R7.o.below ⟨rfl,rfl,rfl,Nat.le_refl _,fun _ _=>rfl⟩⟩,T7.o.drewN _⟩
   .have HN:Hid (iD (dX f) l=some (Simple.of 46 m.t.word,l1.tail)):=by show _=_;rw[HP3.o,if_pos (by simpa using FX)]
    go_quiet (fail)
    go_wp2_with fail;go_ret2
    refine⟨?_,T7.o.drewN _⟩;rw[HN.o];refine⟨_,_,rfl,R7.o.below ⟨rfl,rfl,rfl,Nat.le_refl _,fun _ _=>rfl⟩,?_⟩;exact(QW m.t.word (.slice none 0 0) 0) ▸ aQ.plain f _ _ 46 m.t.word aA aA 0
 .have HN:Hid (iD (dX f) l=some (Simple.of 35 n.t.word,l1)):=by show _=_;rw[HP.o,if_pos (by simpa using hk4)]
  go_wp2_with fail;go_ret2
  refine⟨?_,T3.o⟩;rw[HN.o];refine⟨_,_,rfl,R3.o,?_⟩;exact(acD n.t.word (.slice none 0 0) 0) ▸ aQ.plain f _ _ 35 n.t.word aA aA 0
end
section
attribute [local go_sem] bI bJ aX aY
theorem aaj:∃i,prog.info? 222=some i/\i.zero=some .nilIface/\i.size=1/\i.bytes=16:=info_parts Ao
theorem IB:CB (hdN []).t=false:=by decide
theorem xP(rec:List Nd->Option bY)(acc:List Simple)(l:List Nd):bZ rec acc l=if CB (hdN l).t=true then(match iD rec l with|none=>none|some (s,r)=>bZ rec (acc++[s]) r) else some (acc,l):=by
 have hf:∀n r,hdN (n::r)=n:=fun _ _=>rfl;match l with
 |[]=>rw[IB];unfold bZ;rfl
 |[n]=>
  rw[hf];unfold CB iD;simp only[hf,List.tail_cons,List.tail_nil];by_cases h4:n.t.kind=4
  .unfold bZ;simp only[h4,decide_true,Bool.true_or,if_true]
  .cases h46:au n.t (b1 46)
   .cases KO:au n.t (b1 91)
    .cases h58:au n.t (b1 58)
     .unfold bZ;simp[dN,h4,h46,KO,h58]
     .unfold bZ;simp[dN,h4,h46,KO,h58,Iz,aik]
    .unfold bZ;simp only[dN,h4,h46,KO,decide_false,Bool.false_or,Bool.or_true,Bool.true_or,if_true,Bool.false_eq_true,if_false];cases gG (bare n.kids)with
     |none=>rfl
     |some s=>simp only[Option.map_some]
   .unfold bZ;simp[dN,h4,h46,aik]
 |n::m::r=>
  rw[hf];unfold CB iD;simp only[hf,List.tail_cons];conv=>lhs;unfold bZ
  by_cases h4:n.t.kind=4
  .simp only[h4,decide_true,Bool.true_or,if_true]
  .cases h46:au n.t (b1 46)
   .cases KO:au n.t (b1 91)
    .cases h58:au n.t (b1 58)
     .simp[dN,h4,h46,KO,h58]
     .simp only[dN,h4,h46,KO,h58,decide_false,Bool.false_or,if_true,Bool.false_eq_true,if_false];cases bM rec m<;>rfl
    .simp only[dN,h4,h46,KO,decide_false,Bool.false_or,Bool.true_or,if_true,Bool.false_eq_true,if_false];cases gG (bare n.kids)<;>rfl
   .simp only[dN,h4,h46,decide_false,Bool.false_or,Bool.true_or,if_true,if_false];by_cases h14:m.t.kind=14
    .rw[if_pos h14,if_pos h14]
    .rw[if_neg h14,if_neg h14]
theorem AO{rec:List Nd->Option bY}{l:List Nd}{s:Simple}{r:List Nd}(h:iD rec l=some (s,r))(hl:l≠[]):r.length<l.length/\(∀f,uo f l->uo f r):=by
 have h1:l.tail.length<l.length:=by
  cases l with
  |nil=>exact absurd rfl hl
  |cons n q=>simp
 have h2:l.tail.tail.length<l.length:=by
  have:l.tail.tail.length<=l.tail.length:=by simp
  omega
 unfold iD at h;split at h
 .cases h;exact⟨h1,fun f q=>q.tail⟩
 .split at h
  .split at h
   .cases h;exact⟨h2,fun f q=>q.tail.tail⟩
   .cases h
  .split at h
   .cases ha:gG (bare (hdN l).kids)with
    |none=>rw[ha]at h;cases h
    |some s'=>rw[ha]at h;cases h;exact⟨h1,fun f q=>q.tail⟩
   .cases ha:bM rec (hdN l.tail)with
    |none=>rw[ha]at h;cases h
    |some s'=>rw[ha]at h;cases h;exact⟨h2,fun f q=>q.tail.tail⟩
theorem IC(k:Nat)(nm h v:BY)(lv:Av)(p:Nat):∃T u,fE k nm h v lv p=.iface T u:=by
 unfold fE;repeat' split
 all_goals exact⟨_,_,rfl⟩
theorem aQ.form{f:Nat}{S:Nat->Prop}{w:WD}{s:Simple}{pv:Av}(h:aQ f S w s [pv]):∃T u,pv=.iface T u:=by
 obtain⟨k,nm,hh,v,l,p⟩:=s;cases f with
 |zero=>obtain⟨_,a,c,e⟩:=h;obtain⟨T,u,e2⟩:=IC k nm hh v (.slice a 0 c) p;exact⟨T,u,by rw[<-e2];exact(List.cons.inj e).1⟩
 |succ f=>obtain⟨lv,e,_⟩:=h;obtain⟨T,u,e2⟩:=IC k nm hh v lv p;exact⟨T,u,by rw[<-e2];exact(List.cons.inj e).1⟩
theorem MG.turn{α:Type}{C:wV α}{sz:Nat}(hF:Fair C){T:TypeId}{base:Nat}{w w':WD}{v:Av}{l:List α}(h:MG C sz T base w v l){b:Nat}(ht:Turn b w w')(hb:b<base):MG C sz T base w' v l:=h.keep hF ht.size fun g hg hg2=>ht.block g hg2 oo
structure CpI(f B b:Nat)(w:WD)(l:List Nd)(u:Av)(acc:List Simple)(cur:List Nd)(wr:WD):Prop where
 row:MG (aQ f) 1 222 w.heap.size wr u acc
 rdr:∃sv,fV B wr b sv cur
 turn:Turn b w wr
 eq:aZ (dX f) l=bZ (dX f) acc cur
 dep:uo f cur
 len:acc.length+cur.length<=l.length
def cpP(f:Nat)(o:Option (List Simple×List Nd))(B b:Nat)(w w':WD)(e:Ending):Prop:=
 match o with
 |none=>∃lv sv l,e=.returned (.tuple #[lv,.bool false])/\fV B w' b sv l
 |some (all,r)=>∃lv sv,e=.returned (.tuple #[lv,.bool (decide (0<all.length))])/\fV B w' b sv r/\SG (aQ f) 1 (oD w.heap.size w') w' lv all
end
section
attribute [local go_sem] bI bJ aX aY
def tH(l:List Nd):Prop:=∀(B:Nat) (v:Av) (w:WD),Sl (fun b=>b<B) w v l->B<=w.heap.size->dL l<=549755813888->Calls prog 102 #[v] w fun e w'=>e=.returned (.string (Sp.written l))/\Below w.heap.size w w'
theorem jP(l:List Nd):(Sp.written l).size<=dL l:=vH none l
section
variable (wd un:BY) (ka:Option Addr) (kids:List Nd) (kc B:Nat) (w:WD)
theorem ai5(hrec:tH kids)(hk:Sl (fun b=>b<B) w (.slice ka kids.length kc) kids)(hB:B<=w.heap.size)(hz:dL kids<=549755813888)(hw:wd.size<=4000000):Calls prog 166 #[.agg #[.int .i64 11,.string wd,.string un,.slice ka kids.length kc]] w fun e w'=>e=.returned (.string (dP wd++(b1 40++(Sp.written kids++b1 41))))/\Below w.heap.size w w':=by
 have B2:Hid (Below w.heap.size w (w.alloc (.cells #[.int .i64 11,.string wd,.string un,.slice ka kids.length kc] 199)).drew):=xJ _ _;have A2:Hid (VB (w.alloc (.cells #[.int .i64 11,.string wd,.string un,.slice ka kids.length kc] 199)).drew w.heap.size (.int .i64 11) (.string wd) (.string un) (.slice ka kids.length kc)):=VB.new _ _ _ _ _;have S2:=hid (hk.below B2.o hB);have HR:=hid hrec;clear hk hrec;obtain⟨nm,Aw⟩:=Nm (dP wd);obtain⟨wr,Hwr⟩:=Nm (Sp.written kids);have HV:Hid (aG [nm,⟨#[40]⟩,wr,⟨#[41]⟩]=dP wd++(b1 40++(Sp.written kids++b1 41))):=by show _=_;rw[Aw.o,Hwr.o];simp[aG,b1]
 have hsz:nm.size<=4*wd.size:=by rw[<-Aw.o];exact fQ wd
 have hsw:wr.size<=dL kids:=by rw[<-Hwr.o];exact jP kids
 go_in;go_wp2_with fail;refine wp_region_any Ao ?_;change wpAny _ _ _ _ _ _ _ (World.drew _);generalize(w.alloc (.cells #[.int .i64 11,.string wd,.string un,.slice ka kids.length kc] 199)).drew=w2 at *;have hs2:=B2.o.size;refine wpAny_of_held (S:=fun wx=>VB wx w.heap.size (.int .i64 11) (.string wd) (.string un) (.slice ka kids.length kc)) _ _ _ _ ?_;refine dH 0 rfl A2.o (by intro w hSw;obtain⟨a0,a1,a2,a3⟩:=hSw.cs;exact gs) ?_;refine dH 1 rfl A2.o (by intro w hSw;obtain⟨a0,a1,a2,a3⟩:=hSw.cs;exact gs) ?_;refine dH 2 rfl A2.o (by intro w hSw;obtain⟨a0,a1,a2,a3⟩:=hSw.cs;exact gs) ?_;refine dH 4 rfl A2.o (by intro w hSw;obtain⟨a0,a1,a2,a3⟩:=hSw.cs;exact gs) ?_
 refine dH 5 rfl A2.o (by intro w hSw;obtain⟨a0,a1,a2,a3⟩:=hSw.cs;exact gs) ?_;refine iW 3 fun K hK=>?_;go_simp;refine(oW wd _ hw).mono ?_;rw[Aw.o];rintro e w3 ⟨rfl,hb3⟩;have B3:=hid (B2.o.trans (hb3.mono hs2));have A3:=hid (A2.o.below hb3);have S3:=hid (S2.o.below hb3 oo);have hs3:=B3.o.size;clear hb3 S2;refine hK.o _ _ A3.o (fun _=>?_);clear hK K;refine iW 6 fun K hK=>?_;go_simp;refine(HR.o B _ w3 S3.o oo hz).mono ?_;rw[Hwr.o];rintro e w4 ⟨rfl,hb4⟩;have B4:=hid (B3.o.trans (hb4.mono hs3));have A4:=hid (A3.o.below hb4);have hs4:=B4.o.size;clear hb4
 refine hK.o _ _ A4.o (fun _=>?_);clear hK K;refine iW 7 fun K hK=>?_;go_simp;refine hK.o _ _ (A4.o.alloc _) (fun _=>?_);clear hK K;refine iW 8 fun K hK=>?_;go_simp;refine pmb (dQ [nm,⟨#[40]⟩,wr,⟨#[41]⟩] w4.heap.size _ _ (row4 w4 nm ⟨#[40]⟩ wr ⟨#[41]⟩) Ab (by show nm.size+(1+(wr.size+(1+0)))<=_;omega)) fun w5 hb5=>?_;have B5:Hid (Below w.heap.size w w5):=(B4.o.alloc hs4 _).trans (hb5.mono An);have A5:Hid (VB w5 w.heap.size (.int .i64 11) (.string wd) (.string un) (.slice ka kids.length kc)):=(A4.o.alloc _).below hb5;clear hb5;refine hK.o _ _ A5.o (fun _=>?_);clear hK K;refine iW 9 fun K hK=>?_;go_simp;refine hK.o _ _ (A5.o) (fun _=>?_);clear hK K;refine wpAnyH_done Ao ?_ _;go_wp2_with fail;go_ret;exact⟨mg HV.o,B5.o⟩
theorem ai6(hrec:tH kids)(hk:Sl (fun b=>b<B) w (.slice ka kids.length kc) kids)(hB:B<=w.heap.size)(hz:dL kids<=549755813888)(hw:wd.size<=4000000):Calls prog 166 #[.agg #[.int .i64 15,.string wd,.string un,.slice ka kids.length kc]] w fun e w'=>e=.returned (.string (wd++(Sp.written kids++closing ⟨15,wd,un⟩)))/\Below w.heap.size w w':=by
 have B2:Hid (Below w.heap.size w (w.alloc (.cells #[.int .i64 15,.string wd,.string un,.slice ka kids.length kc] 199)).drew):=xJ _ _;have A2:Hid (VB (w.alloc (.cells #[.int .i64 15,.string wd,.string un,.slice ka kids.length kc] 199)).drew w.heap.size (.int .i64 15) (.string wd) (.string un) (.slice ka kids.length kc)):=VB.new _ _ _ _ _;have S2:=hid (hk.below B2.o hB);have HR:=hid hrec;clear hk hrec;obtain⟨cl,Hcl⟩:=Nm (closing ⟨15,wd,un⟩);obtain⟨wr,Hwr⟩:=Nm (Sp.written kids);have HV:Hid (aG [wd,wr,cl]=wd++(Sp.written kids++closing ⟨15,wd,un⟩)):=by show _=_;rw[Hcl.o,Hwr.o];simp[aG]
 have hsz:cl.size<=1:=by rw[<-Hcl.o];exact Ce _
 have hsw:wr.size<=dL kids:=by rw[<-Hwr.o];exact jP kids
 go_in;go_wp2_with fail;refine wp_region_any Ao ?_;change wpAny _ _ _ _ _ _ _ (World.drew _);generalize(w.alloc (.cells #[.int .i64 15,.string wd,.string un,.slice ka kids.length kc] 199)).drew=w2 at *;have hs2:=B2.o.size;refine wpAny_of_held (S:=fun wx=>VB wx w.heap.size (.int .i64 15) (.string wd) (.string un) (.slice ka kids.length kc)) _ _ _ _ ?_;refine dH 0 rfl A2.o (by intro w hSw;obtain⟨a0,a1,a2,a3⟩:=hSw.cs;exact gs) ?_;refine dH 1 rfl A2.o (by intro w hSw;obtain⟨a0,a1,a2,a3⟩:=hSw.cs;exact gs) ?_;refine dH 2 rfl A2.o (by intro w hSw;obtain⟨a0,a1,a2,a3⟩:=hSw.cs;exact gs) ?_;refine dH 3 rfl A2.o (by intro w hSw;obtain⟨a0,a1,a2,a3⟩:=hSw.cs;exact gs) ?_
 refine dH 4 rfl A2.o (by intro w hSw;obtain⟨a0,a1,a2,a3⟩:=hSw.cs;exact gs) ?_;refine dH 6 rfl A2.o (by intro w hSw;obtain⟨a0,a1,a2,a3⟩:=hSw.cs;exact gs) ?_;refine dH 7 rfl A2.o (by intro w hSw;obtain⟨a0,a1,a2,a3⟩:=hSw.cs;exact gs) ?_;refine iW 5 fun K hK=>?_;go_simp;refine(HR.o B _ w2 S2.o oo hz).mono ?_;rw[Hwr.o];rintro e w3 ⟨rfl,hb3⟩;have B3:=hid (B2.o.trans (hb3.mono hs2));have A3:=hid (A2.o.below hb3);have hs3:=B3.o.size;clear hb3 S2;refine hK.o _ _ A3.o (fun _=>?_);clear hK K;refine iW 8 fun K hK=>?_;go_simp;refine(G9 ⟨15,wd,un⟩ _).mono ?_;rw[Hcl.o];rintro e w4 ⟨rfl,hb4⟩;have B4:=hid (B3.o.trans (hb4.mono hs3))
 have A4:=hid (A3.o.below hb4);have hs4:=B4.o.size;clear hb4;refine hK.o _ _ A4.o (fun _=>?_);clear hK K;refine iW 9 fun K hK=>?_;go_simp;refine hK.o _ _ (A4.o.alloc _) (fun _=>?_);clear hK K;refine iW 10 fun K hK=>?_;go_simp;refine pmb (dQ [wd,wr,cl] w4.heap.size _ _ (row3 w4 wd wr cl) Ab (by show wd.size+(wr.size+(cl.size+0))<=_;omega)) fun w5 hb5=>?_;have B5:Hid (Below w.heap.size w w5):=(B4.o.alloc hs4 _).trans (hb5.mono An);have A5:Hid (VB w5 w.heap.size (.int .i64 15) (.string wd) (.string un) (.slice ka kids.length kc)):=(A4.o.alloc _).below hb5;clear hb5;refine hK.o _ _ A5.o (fun _=>?_);clear hK K;refine iW 11 fun K hK=>?_;go_simp;refine hK.o _ _ (A5.o) (fun _=>?_);clear hK K;refine wpAnyH_done Ao ?_ _;go_wp2_with fail;go_ret
 exact⟨mg HV.o,B5.o⟩
end
theorem vM(n:Nd)(hrec:tH n.kids)(B:Nat)(kv:Av)(w:WD)(hk:Sl (fun b=>b<B) w kv n.kids)(hB:B<=w.heap.size)(ht:dI n.t)(hz:dL n.kids<=549755813888):
  Calls prog 166 #[fB n.t kv] w fun e w'=>e=.returned (.string (iM n))/\Below w.heap.size w w':=by
 obtain⟨⟨kd,wd,un⟩,kids⟩:=n;obtain⟨ka,kc,rfl⟩:=hk.form;have hw:wd.size<=4000000:=ht.word;have hu:un.size<=4000000:=by have:un.size<=1000:=ht.unit;omega
 show Calls prog _ #[.agg #[.int .i64 kd,.string wd,.string un,.slice ka kids.length kc]] w fun e w'=>e=.returned (.string (Qy ⟨kd,wd,un⟩ (Sp.written kids)))/\Below w.heap.size w w';have ne:∀k:Int,¬kd=k->(kd==k)=false:=fun k h=>by simpa using h
 unfold Qy;by_cases k1:kd=1
 .subst k1;rw[if_pos rfl];exact akO wd un ka kids.length kc w
 rw[if_neg k1];by_cases k2:kd=2
 .subst k2;rw[if_pos rfl];exact akT wd un ka kids.length kc w hw
 rw[if_neg k2];by_cases k3:kd=3
 .subst k3;rw[if_pos rfl];exact akP wd un ka kids.length kc w
 rw[if_neg k3];by_cases k4:kd=4
 .subst k4;rw[if_pos rfl];exact akU wd un ka kids.length kc w hw
 rw[if_neg k4];by_cases k6:kd=6
 .subst k6;rw[if_pos rfl];exact akV wd un ka kids.length kc w hw
 rw[if_neg k6];by_cases k7:kd=7
 .subst k7;rw[if_pos rfl];exact akW wd un ka kids.length kc w hw hu
 rw[if_neg k7];by_cases k8:kd=8
 .subst k8;rw[if_pos rfl];exact akQ wd un ka kids.length kc w
 rw[if_neg k8];by_cases k9:kd=9
 .subst k9;rw[if_pos rfl];exact akR wd un ka kids.length kc w
 rw[if_neg k9];by_cases k10:kd=10
 .subst k10;rw[if_pos rfl];exact aiZ wd un ka kids.length kc w hw
 rw[if_neg k10];by_cases k11:kd=11
 .subst k11;rw[if_pos rfl];exact ai5 wd un ka kids kc B w hrec hk hB hz hw
 rw[if_neg k11];by_cases k12:kd=12
 .subst k12;rw[if_pos rfl];exact aiX wd un ka kids.length kc w hw
 rw[if_neg k12];by_cases k13:kd=13
 .subst k13;rw[if_pos rfl];exact aiW wd un ka kids.length kc w
 rw[if_neg k13];by_cases k14:kd=14
 .subst k14;rw[if_pos rfl];exact aiY wd un ka kids.length kc w hw
 rw[if_neg k14];by_cases k15:kd=15
 .subst k15;rw[if_pos rfl];exact ai6 wd un ka kids kc B w hrec hk hB hz hw
 rw[if_neg k15];exact akS wd un ka kids.length kc w kd (ne _ k1) (ne _ k2) (ne _ k3) (ne _ k4) (ne _ k6) (ne _ k7) (ne _ k8) (ne _ k9) (ne _ k10) (ne _ k11) (ne _ k12) (ne _ k13) (ne _ k14) (ne _ k15)
end
