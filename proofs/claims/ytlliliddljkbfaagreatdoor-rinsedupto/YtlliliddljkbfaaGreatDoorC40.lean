import Derived.Test.YtlliliddljkbfaaGreatDoorC22
import Derived.Test.YtlliliddljkbfaaGreatDoorC24
import Derived.Test.YtlliliddljkbfaaGreatDoorC32
import Derived.Test.YtlliliddljkbfaaGreatDoorC33
import Derived.Test.YtlliliddljkbfaaGreatDoorC39
namespace Go.Proofs.YtlliliddljkbfaaGreatDoor
set_option maxHeartbeats 64000000
set_option maxRecDepth 100000
open Go.Proofs.Tryz (prog)
open Go.RowKit Sp
section
attribute [local go_sem] dH dI bQ bT
theorem NG{nm:ByteArray}(h:stB nm=true)(lv:Value)(p:Nat):jE 58 nm aA aA lv p=.iface 345 (.agg #[.string nm]):=by
 have h':nm=zq\/nm=su\/nm=zu\/nm=sD:=by simpa[stB]using h
 unfold jE;rw[if_neg oo,if_neg oo,if_neg oo,if_neg oo];rcases h' with rfl|rfl|rfl|rfl<;>(rw[if_neg (by decide),if_neg (by decide),if_neg (by decide)])
theorem Ur(lv:Value)(p:Nat):jE 58 lg aA aA lv p=.iface 347 (.agg #[lv]):=by unfold jE;rw[if_neg oo,if_neg oo,if_neg oo,if_neg oo,if_pos rfl]
theorem Xw(lv:Value)(p:Nat):jE 58 xB aA aA lv p=.iface 348 (.agg #[lv]):=by unfold jE;rw[if_neg oo,if_neg oo,if_neg oo,if_neg oo,if_neg (by decide),if_pos rfl]
def stP(f:Nat)(o:Option Simple)(w w':World)(e:Ending):Prop:=
 match o with
 |none=>∃pv,e=.returned (.tuple #[pv,.bool false])
 |some s=>∃pv,e=.returned (.tuple #[pv,.bool true])/\dF f (vV w.heap.size w') w' s [pv]
def rdP(f:Nat)(l:List Nd)(w w':World)(e:Ending):Prop:=
 match ny f l with
 |none=>e=.returned (.tuple #[.slice none 0 0,.bool false])
 |some ss=>∃sv,e=.returned (.tuple #[sv,.bool true])/\SG (KN (dF f)) 1 (vV w.heap.size w') w' sv ss
def Qn(f:Nat):Prop:=∀(B:Nat) (l:List Nd) (v:Value) (w:World),depth l<=f->Sl (fun b=>b<B) w v l->B<=w.heap.size->Calls prog 68 #[v] w fun e w'=>rdP f l w w' e/\Below w.heap.size w w'
def Io:Nat->Prop
 |0=>True
 |f+1=>Qn f
theorem Qo{rec:List Nd->Option fC}{n:Nd}(h:n.t.kind=14):aK rec n=if stB (small n.t.word)=true then some (Simple.of 58 (small n.t.word)) else none:=by unfold aK;simp only[if_pos h,stB,decide_eq_true_eq]
theorem FX{rec:List Nd->Option fC}{n:Nd}(h:¬n.t.kind=14)(h2:¬n.t.kind=11):aK rec n=none:=by unfold aK;simp only[if_neg h];rw[if_pos h2]
theorem NH{rec:List Nd->Option fC}{n:Nd}(h2:n.t.kind=11)(h:small n.t.word=iR):aK rec n=(xu n.kids).map (fun p=>.mk 58 iR aA aA [] p):=by
 unfold aK;simp only[if_neg (show ¬n.t.kind=14 by omega)];rw[if_neg oo,h,if_neg (by decide),if_pos rfl];unfold xu Un;cases bare n.kids with
 |nil=>rfl
 |cons x r=>cases r<;>rfl
theorem Az{rec:List Nd->Option fC}{n:Nd}(h2:n.t.kind=11)(h:small n.t.word=lg\/small n.t.word=xB):aK rec n=(rec n.kids).map (fun l=>.mk 58 (small n.t.word) aA aA l 0):=by unfold aK;simp only[if_neg (show ¬n.t.kind=14 by omega)];rw[if_neg oo,if_pos h]
theorem Ip{rec:List Nd->Option fC}{n:Nd}(h2:n.t.kind=11)(h:¬small n.t.word=lg)(h':¬small n.t.word=xB)(h3:¬small n.t.word=iR):aK rec n=none:=by unfold aK;simp only[if_neg (show ¬n.t.kind=14 by omega)];rw[if_neg oo,if_neg (fun q=>q.elim h h'),if_neg h3]
theorem vN{w1 w2 w':World}(h:w1.heap.size<=w2.heap.size):∀g,vV w2.heap.size w' g->vV w1.heap.size w' g:=fun _ hg=>⟨by have:=hg.1;omega,hg.2⟩
theorem NI(f:Nat)(hR:Io f)(B:Nat)(n:Nd)(kv:Value)(w:World)(hwd:n.t.word.size<=4000000)(hS:Sl (fun b=>b<B) w kv n.kids)(hB:B<=w.heap.size)(hd:n.t.kind=11->depth n.kids+1<=f):
  Calls prog 288 #[dM n.t kv] w fun e w'=>stP f (aK (aY f) n) w w' e/\Below w.heap.size w w':=by
 have HR:Hid (Io f):=hR;have HD:Hid (n.t.kind=11->depth n.kids+1<=f):=hd;obtain⟨ka,kc,rfl⟩:=hS.form;have A1:Hid (VB (w.alloc (.cells #[.int .i64 n.t.kind,.string n.t.word,.string n.t.unit,.slice ka n.kids.length kc] 168)) w.heap.size (.int .i64 n.t.kind) (.string n.t.word) (.string n.t.unit) (.slice ka n.kids.length kc)):=VB.new _ _ _ _ _;have B1:Hid (Below w.heap.size w (w.alloc (.cells #[.int .i64 n.t.kind,.string n.t.word,.string n.t.unit,.slice ka n.kids.length kc] 168))):=(Below.refl _ _).alloc nl _;have S1:Hid (Sl (fun b=>b<B) (w.alloc (.cells #[.int .i64 n.t.kind,.string n.t.word,.string n.t.unit,.slice ka n.kids.length kc] 168)) (.slice ka n.kids.length kc) n.kids):=hS.below B1.o hB;clear hR hd hS;obtain⟨nm,iZ⟩:∃nm,Hid (small n.t.word=nm):=⟨_,hid rfl⟩;unfold dM;go_in;go_upto_region 1 with fail
 generalize w.alloc (.cells #[.int .i64 n.t.kind,.string n.t.word,.string n.t.unit,.slice ka n.kids.length kc] 168)=w1 at *;obtain⟨gt,oU⟩:∃gt,Hid (w.heap.size=gt):=⟨_,hid rfl⟩;have A2:Hid (VB w1 gt (.int .i64 n.t.kind) (.string n.t.word) (.string n.t.unit) (.slice ka n.kids.length kc)):=by rw[<-oU.o];exact A1
 rw[oU.o];clear A1;obtain⟨a0,a1,a2,a3⟩:=A2.o.cs;go_wp2_with fail;refine(oH n.t.word _ oo).mono ?_;rw[iZ.o];rintro e w2 ⟨rfl,hb2⟩;have hs1:=B1.o.size;have A3:Hid (VB w2 gt (.int .i64 n.t.kind) (.string n.t.word) (.string n.t.unit) (.slice ka n.kids.length kc)):=A2.o.below hb2;have B3:Hid (Below w.heap.size w w2):=B1.o.trans (hb2.mono hs1);have S3:Hid (Sl (fun b=>b<B) w2 (.slice ka n.kids.length kc) n.kids):=S1.o.below hb2 oo;clear hb2 A2 B1 S1 a0 a1 a2 a3;obtain⟨a0,a1,a2,a3⟩:=A3.o.cs;have hs3:=B3.o.size;cases Kw:(n.t.kind==14)
 .cases adG:(n.t.kind != 11)
  .have e11:n.t.kind=11:=by simpa using adG
   have E11:Hid (n.t.kind=11):=e11;clear e11;cases Z8:(nm.toList==[110,116,104,45,99,104,105,108,100])
   .have n3:¬nm=iR:=by rw[aH]at Z8;simpa[iR]using Z8
    cases hnot:(nm.toList==[110,111,116])
    .have n1:¬nm=lg:=by rw[aH]at hnot;simpa[lg]using hnot
     cases his:(nm.toList==[105,115])
     .have n2:¬nm=xB:=by rw[aH]at his;simpa[xB]using his
      have HV:Hid (aK (aY f) n=none):=Ip E11.o (by rw[iZ.o];exact n1) (by rw[iZ.o];exact n2) (by rw[iZ.o];exact n3);clear n1 n2 n3;go_wp2_with fail;go_ret2
      exact⟨by rw[HV.o];exact⟨_,rfl⟩,B3.o⟩
     .have n2:nm=xB:=by rw[aH]at his;simpa[xB]using his
      obtain⟨g,rfl⟩:∃g,f=g+1:=⟨f-1,by have:=HD.o E11.o;omega⟩;have HV:Hid (aK (aY (g+1)) n=(ny g n.kids).map (fun l=>.mk 58 xB aA aA l 0)):=by have:=Az (rec:=aY (g+1)) E11.o (.inr (by rw[iZ.o];exact n2));rw[iZ.o,n2]at this;exact this
      clear n1 n2 n3;go_wp2_with fail;refine(HR.o B n.kids _ w2 (by have:=HD.o E11.o;omega) S3.o oo).mono ?_;rintro e w4 ⟨hp,hb4⟩;have B4:Hid (Below w.heap.size w w4):=B3.o.trans (hb4.mono hs3);clear hb4;unfold rdP at hp;cases hsel:ny g n.kids with
      |none=>
       rw[hsel]at hp;subst hp;have HN:Hid (aK (aY (g+1)) n=none):=by show _=_;rw[HV.o,hsel];rfl
       clear hsel;go_wp2_with fail;go_ret2
       exact⟨by rw[HN.o];exact⟨_,rfl⟩,B4.o⟩
      |some ss=>
       rw[hsel]at hp;obtain⟨sv,rfl,hsg⟩:=hp;obtain⟨sa,sc,rfl⟩:=hsg.form;have HN:Hid (aK (aY (g+1)) n=some (.mk 58 xB aA aA ss 0)):=by show _=_;rw[HV.o,hsel];rfl
       have HG:Hid (SG (KN (dF g)) 1 (vV w.heap.size w4) w4 (.slice sa ss.length sc) ss):=hsg.keep (One.fair (kU.fair (dF.fair g))) (vN hs3) fun _ _=>rfl;clear hsel hsg;go_wp2_with fail;go_ret2
       exact⟨by rw[HN.o];exact⟨_,rfl,_,by rw[Xw];rfl,HG.o⟩,B4.o⟩
    .have n2:nm=lg:=by rw[aH]at hnot;simpa[lg]using hnot
     obtain⟨g,rfl⟩:∃g,f=g+1:=⟨f-1,by have:=HD.o E11.o;omega⟩;have HV:Hid (aK (aY (g+1)) n=(ny g n.kids).map (fun l=>.mk 58 lg aA aA l 0)):=by have:=Az (rec:=aY (g+1)) E11.o (.inl (by rw[iZ.o];exact n2));rw[iZ.o,n2]at this;exact this
     clear n2 n3;go_wp2_with fail;refine(HR.o B n.kids _ w2 (by have:=HD.o E11.o;omega) S3.o oo).mono ?_;rintro e w4 ⟨hp,hb4⟩;have B4:Hid (Below w.heap.size w w4):=B3.o.trans (hb4.mono hs3);clear hb4;unfold rdP at hp;cases hsel:ny g n.kids with
     |none=>
      rw[hsel]at hp;subst hp;have HN:Hid (aK (aY (g+1)) n=none):=by show _=_;rw[HV.o,hsel];rfl
      clear hsel;go_wp2_with fail;go_ret2
      exact⟨by rw[HN.o];exact⟨_,rfl⟩,B4.o⟩
     |some ss=>
      rw[hsel]at hp;obtain⟨sv,rfl,hsg⟩:=hp;obtain⟨sa,sc,rfl⟩:=hsg.form;have HN:Hid (aK (aY (g+1)) n=some (.mk 58 lg aA aA ss 0)):=by show _=_;rw[HV.o,hsel];rfl
      have HG:Hid (SG (KN (dF g)) 1 (vV w.heap.size w4) w4 (.slice sa ss.length sc) ss):=hsg.keep (One.fair (kU.fair (dF.fair g))) (vN hs3) fun _ _=>rfl;clear hsel hsg;go_wp2_with fail;go_ret2
      exact⟨by rw[HN.o];exact⟨_,rfl,_,by rw[Ur];rfl,HG.o⟩,B4.o⟩
   .have n3:nm=iR:=by rw[aH]at Z8;simpa[iR]using Z8
    have HV:Hid (aK (aY f) n=(xu n.kids).map (fun p=>.mk 58 iR aA aA [] p)):=NH E11.o (by rw[iZ.o];exact n3);clear n3;go_wp2_with fail;refine(NC B n.kids _ w2 S3.o oo).mono ?_;rintro e w4 ⟨hp,hb4⟩;have B4:Hid (Below w.heap.size w w4):=B3.o.trans (hb4.mono hs3);clear hb4;rcases hp with⟨hn,pv,rfl⟩|⟨p,hn,rfl⟩
    .have HN:Hid (aK (aY f) n=none):=by show _=_;rw[HV.o,hn];rfl
     clear hn;go_wp2_with fail;go_ret2
     exact⟨by rw[HN.o];exact⟨_,rfl⟩,B4.o⟩
    .have HN:Hid (aK (aY f) n=some (.mk 58 iR aA aA [] p)):=by show _=_;rw[HV.o,hn];rfl
     clear hn;go_wp2_with fail;go_ret2
     exact⟨by rw[HN.o];exact⟨_,rfl,dF.plain _ _ _ _ _ _ _ _⟩,B4.o⟩
  .have HV:Hid (aK (aY f) n=none):=FX (by simpa using Kw) (by simpa using adG);go_wp2_with fail;go_ret2
   exact⟨by rw[HV.o];exact⟨_,rfl⟩,B3.o⟩
 .have HV:Hid (aK (aY f) n=if stB nm=true then some (Simple.of 58 nm) else none):=by
   have:=Qo (rec:=aY f) (n:=n) (by simpa using Kw);rw[iZ.o]at this;exact this
  go_wp2_with fail;refine(Ue nm _).mono ?_;rintro e w4 ⟨rfl,rfl⟩;obtain⟨z,Hz⟩:∃z,Hid (stB nm=z):=⟨_,hid rfl⟩;rw[Hz.o]at HV⊢;cases z
  .go_wp2_with fail;go_ret2
   exact⟨by rw[HV.o];exact⟨_,rfl⟩,B3.o⟩
  .go_wp2_with fail;go_ret2
   refine⟨?_,B3.o⟩;rw[HV.o];refine⟨_,rfl,?_⟩;have:=dF.plain f (vV w.heap.size w4) w4 58 nm aA aA 0;rw[NG Hz.o]at this;exact this
end
section
attribute [local go_sem] dH dI bQ bT
def jf(rec:List Nd->Option fC)(l:List Nd):Option (Simple×List Nd):=
 if (hdN l).t.kind=4 then some (Simple.of 35 (hdN l).t.word,l.tail)
 else if ay (hdN l).t (b1 46)=true then(if (hdN l.tail).t.kind=14 then some (Simple.of 46 (hdN l.tail).t.word,l.tail.tail) else none)
 else if ay (hdN l).t (b1 91)=true then(dh (bare (hdN l).kids)).map (fun s=>(s,l.tail))
 else(aK rec (hdN l.tail)).map (fun s=>(s,l.tail.tail))
def ptP(f:Nat)(o:Option (Simple×List Nd))(B b:Nat)(w w':World)(e:Ending):Prop:=
 match o with
 |none=>∃pv sv l,e=.returned (.tuple #[pv,.bool false])/\iw B w' b sv l
 |some (s,r)=>∃pv sv,e=.returned (.tuple #[pv,.bool true])/\iw B w' b sv r/\dF f (vV w.heap.size w') w' s [pv]
theorem Xx(nm:ByteArray)(lv:Value)(p:Nat):jE 35 nm aA aA lv p=.iface 324 (.agg #[.string nm]):=by unfold jE;rw[if_neg oo,if_pos rfl]
theorem NJ(nm:ByteArray)(lv:Value)(p:Nat):jE 46 nm aA aA lv p=.iface 325 (.agg #[.string nm]):=by unfold jE;rw[if_neg oo,if_neg oo,if_pos rfl]
def rJ(f:Nat)(l:List Nd):Prop:=∀n∈l,(n.t.kind=11->depth n.kids+1<=f)/\n.t.word.size<=4000000
theorem rJ.hd{f:Nat}{l:List Nd}(h:rJ f l):((hdN l).t.kind=11->depth (hdN l).kids+1<=f)/\(hdN l).t.word.size<=4000000:=by
 cases l with
 |nil=>exact⟨fun e=>absurd e (by decide),by decide⟩
 |cons n r=>exact h n (by simp)
theorem rJ.tail{f:Nat}{l:List Nd}(h:rJ f l):rJ f l.tail:=fun n hn=>h n (List.mem_of_mem_tail hn)
theorem abY(f:Nat)(hR:Io f)(B b:Nat)(sv:Value)(l:List Nd)(w:World)(h:iw B w b sv l)(hd:rJ f l):
  Calls prog 251 #[.pointer (some ⟨b,0,none⟩)] w fun e w'=>ptP f (jf (aY f) l) B b w w' e/\Turn b w w':=by
 have R1:Hid (iw B w b sv l):=h;have HR:Hid (Io f):=hR;have HD:Hid (rJ f l):=hd;have hbw:b<w.heap.size:=h.lt;have hBb:B<=b:=h.lo;clear h hR hd;obtain⟨n,Hn⟩:∃n,Hid (hdN l=n):=⟨_,hid rfl⟩;obtain⟨l1,Hl1⟩:∃x,Hid (l.tail=x):=⟨_,hid rfl⟩;have HP:Hid (jf (aY f) l=if n.t.kind=4 then some (Simple.of 35 n.t.word,l1) else if ay n.t (b1 46)=true then(if (hdN l1).t.kind=14 then some (Simple.of 46 (hdN l1).t.word,l1.tail) else none) else if ay n.t (b1 91)=true then(dh (bare n.kids)).map (fun s=>(s,l1)) else(aK (aY f) (hdN l1)).map (fun s=>(s,l1.tail))):=by show _=_;unfold jf;rw[Hn.o,Hl1.o]
 go_in;go_wp2_with fail;refine(qE B b _ l _ R1.o).mono ?_;rw[Hn.o,Hl1.o];rintro e w2 ⟨kv2,RG,rfl,hk2,hR2,hT2⟩;obtain⟨ka,kc,rfl⟩:=hk2.form;have T2:Hid (Turn b w w2):=hT2;have R2:Hid (iw B w2 b RG l1):=hR2;have K2:Hid (Sl (fun k=>k<B) w2 (.slice ka n.kids.length kc) n.kids):=hk2;clear hk2 hR2 hT2 R1;unfold dM;have A3:Hid (VB (w2.alloc (.cells #[.int .i64 n.t.kind,.string n.t.word,.string n.t.unit,.slice ka n.kids.length kc] 168)) w2.heap.size (.int .i64 n.t.kind) (.string n.t.word) (.string n.t.unit) (.slice ka n.kids.length kc)):=VB.new _ _ _ _ _;have R3:Hid (iw B (w2.alloc (.cells #[.int .i64 n.t.kind,.string n.t.word,.string n.t.unit,.slice ka n.kids.length kc] 168)) b RG l1):=R2.o.alloc _;have T3:Hid (Turn b w (w2.alloc (.cells #[.int .i64 n.t.kind,.string n.t.word,.string n.t.unit,.slice ka n.kids.length kc] 168))):=T2.o.alloc _
 have hb2:b<w2.heap.size:=R2.o.lt;have K3:Hid (Sl (fun k=>k<B) (w2.alloc (.cells #[.int .i64 n.t.kind,.string n.t.word,.string n.t.unit,.slice ka n.kids.length kc] 168)) (.slice ka n.kids.length kc) n.kids):=K2.o.below ((Below.refl w2.heap.size w2).alloc nl _) oo;clear R2 T2 K2;go_upto_region 2 with fail
 generalize w2.alloc (.cells #[.int .i64 n.t.kind,.string n.t.word,.string n.t.unit,.slice ka n.kids.length kc] 168)=w3 at *;generalize w2.heap.size=gn at *;obtain⟨a0,a1,a2,a3⟩:=A3.o.cs;cases hk4:(n.t.kind==4)
 .have n4:¬n.t.kind=4:=by simpa using hk4
  have HP2:Hid (jf (aY f) l=if ay n.t (b1 46)=true then(if (hdN l1).t.kind=14 then some (Simple.of 46 (hdN l1).t.word,l1.tail) else none) else if ay n.t (b1 91)=true then(dh (bare n.kids)).map (fun s=>(s,l1)) else(aK (aY f) (hdN l1)).map (fun s=>(s,l1.tail))):=by show _=_;rw[HP.o,if_neg n4]
  clear n4 HP;go_wp2_with fail;refine pmb (jU n.t _ (b1 46) _) fun w4 hb4=>?_;have R4:Hid (iw B w4 b RG l1):=R3.o.below hb4;have T4:Hid (Turn b w w4):=T3.o.trans (Turn.of_below hb4);have A4:Hid (VB w4 gn (.int .i64 n.t.kind) (.string n.t.word) (.string n.t.unit) (.slice ka n.kids.length kc)):=A3.o.below hb4;have K4:Hid (Sl (fun k=>k<B) w4 (.slice ka n.kids.length kc) n.kids):=K3.o.below hb4 (by have:=R3.o.lt;omega);clear hb4 R3 T3 A3 K3 a0 a1 a2 a3;obtain⟨a0,a1,a2,a3⟩:=A4.o.cs;obtain⟨s1,DW⟩:∃s,Hid (ay n.t (b1 46)=s):=⟨_,hid rfl⟩;rw[DW.o]at HP2⊢;cases s1
  .have Z9:Hid (jf (aY f) l=if ay n.t (b1 91)=true then(dh (bare n.kids)).map (fun s=>(s,l1)) else(aK (aY f) (hdN l1)).map (fun s=>(s,l1.tail))):=by show _=_;rw[HP2.o];rfl
   clear HP2;go_wp2_with fail;refine pmb (jU n.t _ (b1 91) _) fun w5 hb5=>?_;have R5:Hid (iw B w5 b RG l1):=R4.o.below hb5;have T5:Hid (Turn b w w5):=T4.o.trans (Turn.of_below hb5);have A5:Hid (VB w5 gn (.int .i64 n.t.kind) (.string n.t.word) (.string n.t.unit) (.slice ka n.kids.length kc)):=A4.o.below hb5;have K5:Hid (Sl (fun k=>k<B) w5 (.slice ka n.kids.length kc) n.kids):=K4.o.below hb5 (by have:=R4.o.lt;omega);clear hb5 R4 T4 A4 K4 a0 a1 a2 a3;obtain⟨a0,a1,a2,a3⟩:=A5.o.cs;have hb5:b<w5.heap.size:=R5.o.lt;have hw5:w.heap.size<=w5.heap.size:=T5.o.size;obtain⟨s2,Ud⟩:∃s,Hid (ay n.t (b1 91)=s):=⟨_,hid rfl⟩;rw[Ud.o]at Z9⊢;cases s2
   .have HP4:Hid (jf (aY f) l=(aK (aY f) (hdN l1)).map (fun s=>(s,l1.tail))):=by show _=_;rw[Z9.o];rfl
    clear Z9;obtain⟨m,Hm⟩:∃m,Hid (hdN l1=m):=⟨_,hid rfl⟩;have HDm:Hid ((m.t.kind=11->depth m.kids+1<=f)/\m.t.word.size<=4000000):=by have:=HD.o.tail;rw[Hl1.o]at this;have:=this.hd;rw[Hm.o]at this;exact this
    rw[Hm.o]at HP4;go_wp2_with fail;refine(qE B b _ l1 _ R5.o).mono ?_;rw[Hm.o];rintro e w6 ⟨kv6,sv6,rfl,hk6,MX,KL⟩;have R6:Hid (iw B w6 b sv6 l1.tail):=MX;have T6:Hid (Turn b w w6):=T5.o.trans KL;have K6:Hid (Sl (fun k=>k<B) w6 kv6 m.kids):=hk6;have hw6:=T6.o.size;clear MX KL hk6 R5 T5;go_wp2_with fail;refine(NI f HR.o B m kv6 w6 HDm.o.2 K6.o (by have:=R6.o.lt;omega) HDm.o.1).mono ?_;rintro e w7 ⟨hp,hb7⟩;have R7:Hid (iw B w7 b sv6 l1.tail):=R6.o.below hb7;have T7:Hid (Turn b w w7):=T6.o.trans (Turn.of_below hb7);clear hb7;unfold stP at hp;cases hq:aK (aY f) m with
    |none=>
     rw[hq]at hp;obtain⟨pv,rfl⟩:=hp;have HN:Hid (jf (aY f) l=none):=by show _=_;rw[HP4.o,hq];rfl
     clear hq;go_wp2_with fail;go_ret2
     exact⟨by rw[HN.o];exact⟨_,_,_,rfl,R7.o⟩,T7.o⟩
    |some s=>
     rw[hq]at hp;obtain⟨pv,rfl,hps⟩:=hp;have HN:Hid (jf (aY f) l=some (s,l1.tail)):=by show _=_;rw[HP4.o,hq];rfl
     have HPS:Hid (dF f (vV w.heap.size w7) w7 s [pv]):=dF.fair f _ _ _ _ _ _ (vN hw6) (fun _ _=>rfl) hps;clear hq hps;go_wp2_with fail;go_ret2
     exact⟨by rw[HN.o];exact⟨_,_,rfl,R7.o,HPS.o⟩,T7.o⟩
   .have HP4:Hid (jf (aY f) l=(dh (bare n.kids)).map (fun s=>(s,l1))):=by show _=_;rw[Z9.o];rfl
    clear Z9;go_wp2_with fail;refine(Qm B n.kids _ w5 K5.o oo).mono ?_;rintro e w7 ⟨hp,hb7⟩;have R7:Hid (iw B w7 b RG l1):=R5.o.below hb7;have T7:Hid (Turn b w w7):=T5.o.trans (Turn.of_below hb7);clear hb7;unfold adE at hp;cases hq:dh (bare n.kids)with
    |none=>
     rw[hq]at hp;obtain⟨pv,rfl⟩:=hp;have HN:Hid (jf (aY f) l=none):=by show _=_;rw[HP4.o,hq];rfl
     clear hq;go_wp2_with fail;go_ret2
     exact⟨by rw[HN.o];exact⟨_,_,_,rfl,R7.o⟩,T7.o⟩
    |some s=>
     have hs0:∃nm h v,s=.mk 91 nm h v [] 0:=by
      rw[Xv (KP.RU _)]at hq;unfold uz at hq;split at hq
      .split at hq
       .cases hq;exact⟨_,_,_,rfl⟩
       .cases hq
      .split at hq
       .cases hq;exact⟨_,_,_,rfl⟩
       .cases hq
     obtain⟨nm,hw,v,rfl⟩:=hs0;rw[hq]at hp;have hp':e=.returned (.tuple #[jE 91 nm hw v (.slice none 0 0) 0,.bool true]):=hp;subst hp';have HN:Hid (jf (aY f) l=some (.mk 91 nm hw v [] 0,l1)):=by show _=_;rw[HP4.o,hq];rfl
     clear hq hp;go_wp2_with fail;go_ret2
     exact⟨by rw[HN.o];exact⟨_,_,rfl,R7.o,dF.plain _ _ _ _ _ _ _ _⟩,T7.o⟩
  .have Z9:Hid (jf (aY f) l=if (hdN l1).t.kind=14 then some (Simple.of 46 (hdN l1).t.word,l1.tail) else none):=by show _=_;rw[HP2.o];rfl
   clear HP2;obtain⟨m,Hm⟩:∃m,Hid (hdN l1=m):=⟨_,hid rfl⟩;rw[Hm.o]at Z9;go_wp2_with fail;refine(qE B b _ l1 _ R4.o).mono ?_;rw[Hm.o];rintro e w6 ⟨kv6,sv6,rfl,hk6,MX,KL⟩;obtain⟨ma,mc,rfl⟩:=hk6.form;have R6:Hid (iw B w6 b sv6 l1.tail):=MX;have T6:Hid (Turn b w w6):=T4.o.trans KL;clear MX KL hk6 R4 T4;unfold dM;have M7:Hid (VB (w6.alloc (.cells #[.int .i64 m.t.kind,.string m.t.word,.string m.t.unit,.slice ma m.kids.length mc] 168)) w6.heap.size (.int .i64 m.t.kind) (.string m.t.word) (.string m.t.unit) (.slice ma m.kids.length mc)):=VB.new _ _ _ _ _;have R7:Hid (iw B (w6.alloc (.cells #[.int .i64 m.t.kind,.string m.t.word,.string m.t.unit,.slice ma m.kids.length mc] 168)) b sv6 l1.tail):=R6.o.alloc _;have T7:Hid (Turn b w (w6.alloc (.cells #[.int .i64 m.t.kind,.string m.t.word,.string m.t.unit,.slice ma m.kids.length mc] 168))):=T6.o.alloc _
   clear R6 T6;go_upto_region 6 with fail
   generalize w6.alloc (.cells #[.int .i64 m.t.kind,.string m.t.word,.string m.t.unit,.slice ma m.kids.length mc] 168)=w7 at *;generalize w6.heap.size=gm at *;clear a0 a1 a2 a3;obtain⟨a0,a1,a2,a3⟩:=M7.o.cs;cases Kw:(m.t.kind==14)
   .have HN:Hid (jf (aY f) l=none):=by show _=_;rw[Z9.o,if_neg (by simpa using Kw)]
    go_quiet (fail)
    go_wp2_with fail;go_ret2
    exact⟨by rw[HN.o];exact⟨_,_,_,rfl,R7.o.below ⟨rfl,rfl,rfl,Nat.le_refl _,fun _ _=>rfl⟩⟩,T7.o.drewN _⟩
   .have HN:Hid (jf (aY f) l=some (Simple.of 46 m.t.word,l1.tail)):=by show _=_;rw[Z9.o,if_pos (by simpa using Kw)]
    go_quiet (fail)
    go_wp2_with fail;go_ret2
    refine⟨?_,T7.o.drewN _⟩;rw[HN.o];refine⟨_,_,rfl,R7.o.below ⟨rfl,rfl,rfl,Nat.le_refl _,fun _ _=>rfl⟩,?_⟩;exact(NJ m.t.word (.slice none 0 0) 0) ▸ dF.plain f _ _ 46 m.t.word aA aA 0
 .have HN:Hid (jf (aY f) l=some (Simple.of 35 n.t.word,l1)):=by show _=_;rw[HP.o,if_pos (by simpa using hk4)]
  go_wp2_with fail;go_ret2
  refine⟨?_,T3.o⟩;rw[HN.o];refine⟨_,_,rfl,R3.o,?_⟩;exact(Xx n.t.word (.slice none 0 0) 0) ▸ dF.plain f _ _ 35 n.t.word aA aA 0
end
section
attribute [local go_sem] dH dI bQ bT
theorem Us:∃i,prog.info? 207=some i/\i.zero=some .nilIface/\i.size=1/\i.bytes=16:=info_parts (by kernel_rfl)
theorem FY:Am (hdN []).t=false:=by decide
theorem vO(rec:List Nd->Option fC)(acc:List Simple)(l:List Nd):bD rec acc l=if Am (hdN l).t=true then(match jf rec l with|none=>none|some (s,r)=>bD rec (acc++[s]) r) else some (acc,l):=by
 have hf:∀n r,hdN (n::r)=n:=fun _ _=>rfl;match l with
 |[]=>rw[FY];unfold bD;rfl
 |[n]=>
  rw[hf];unfold Am jf;simp only[hf,List.tail_cons,List.tail_nil];by_cases h4:n.t.kind=4
  .unfold bD;simp only[h4,decide_true,Bool.true_or,if_true]
  .cases h46:ay n.t (b1 46)
   .cases Dt:ay n.t (b1 91)
    .cases h58:ay n.t (b1 58)
     .unfold bD;simp[dY,h4,h46,Dt,h58]
     .unfold bD;simp[dY,h4,h46,Dt,h58,FX,aaJ]
    .unfold bD;simp only[dY,h4,h46,Dt,decide_false,Bool.false_or,Bool.or_true,Bool.true_or,if_true,Bool.false_eq_true,if_false];cases dh (bare n.kids)with
     |none=>rfl
     |some s=>simp only[Option.map_some]
   .unfold bD;simp[dY,h4,h46,aaJ]
 |n::m::r=>
  rw[hf];unfold Am jf;simp only[hf,List.tail_cons];conv=>lhs;unfold bD
  by_cases h4:n.t.kind=4
  .simp only[h4,decide_true,Bool.true_or,if_true]
  .cases h46:ay n.t (b1 46)
   .cases Dt:ay n.t (b1 91)
    .cases h58:ay n.t (b1 58)
     .simp[dY,h4,h46,Dt,h58]
     .simp only[dY,h4,h46,Dt,h58,decide_false,Bool.false_or,if_true,Bool.false_eq_true,if_false];cases aK rec m<;>rfl
    .simp only[dY,h4,h46,Dt,decide_false,Bool.false_or,Bool.true_or,if_true,Bool.false_eq_true,if_false];cases dh (bare n.kids)<;>rfl
   .simp only[dY,h4,h46,decide_false,Bool.false_or,Bool.true_or,if_true,if_false];by_cases h14:m.t.kind=14
    .rw[if_pos h14,if_pos h14]
    .rw[if_neg h14,if_neg h14]
theorem yU{rec:List Nd->Option fC}{l:List Nd}{s:Simple}{r:List Nd}(h:jf rec l=some (s,r))(hl:l≠[]):r.length<l.length/\(∀f,rJ f l->rJ f r):=by
 have h1:l.tail.length<l.length:=by
  cases l with
  |nil=>exact absurd rfl hl
  |cons n q=>simp
 have h2:l.tail.tail.length<l.length:=by
  have:l.tail.tail.length<=l.tail.length:=by simp
  omega
 unfold jf at h;split at h
 .cases h;exact⟨h1,fun f q=>q.tail⟩
 .split at h
  .split at h
   .cases h;exact⟨h2,fun f q=>q.tail.tail⟩
   .cases h
  .split at h
   .cases ha:dh (bare (hdN l).kids)with
    |none=>rw[ha]at h;cases h
    |some s'=>rw[ha]at h;cases h;exact⟨h1,fun f q=>q.tail⟩
   .cases ha:aK rec (hdN l.tail)with
    |none=>rw[ha]at h;cases h
    |some s'=>rw[ha]at h;cases h;exact⟨h2,fun f q=>q.tail.tail⟩
theorem FZ(k:Nat)(nm h v:ByteArray)(lv:Value)(p:Nat):∃T u,jE k nm h v lv p=.iface T u:=by
 unfold jE;repeat' split
 all_goals exact⟨_,_,rfl⟩
theorem dF.form{f:Nat}{S:Nat->Prop}{w:World}{s:Simple}{pv:Value}(h:dF f S w s [pv]):∃T u,pv=.iface T u:=by
 obtain⟨k,nm,hh,v,l,p⟩:=s;cases f with
 |zero=>obtain⟨_,a,c,e⟩:=h;obtain⟨T,u,e2⟩:=FZ k nm hh v (.slice a 0 c) p;exact⟨T,u,by rw[<-e2];exact(List.cons.inj e).1⟩
 |succ f=>obtain⟨lv,e,_⟩:=h;obtain⟨T,u,e2⟩:=FZ k nm hh v lv p;exact⟨T,u,by rw[<-e2];exact(List.cons.inj e).1⟩
theorem MG.turn{α:Type}{C:ug α}{sz:Nat}(hF:Fair C){T:TypeId}{base:Nat}{w w':World}{v:Value}{l:List α}(h:MG C sz T base w v l){b:Nat}(ht:Turn b w w')(hb:b<base):MG C sz T base w' v l:=h.keep hF ht.size fun g hg hg2=>ht.block g hg2 oo
structure CpI(f B b:Nat)(w:World)(l:List Nd)(u:Value)(acc:List Simple)(cur:List Nd)(wr:World):Prop where
 row:MG (dF f) 1 207 w.heap.size wr u acc
 rdr:∃sv,iw B wr b sv cur
 turn:Turn b w wr
 eq:aJ (aY f) l=bD (aY f) acc cur
 dep:rJ f cur
 len:acc.length+cur.length<=l.length
def cpP(f:Nat)(o:Option (List Simple×List Nd))(B b:Nat)(w w':World)(e:Ending):Prop:=
 match o with
 |none=>∃lv sv l,e=.returned (.tuple #[lv,.bool false])/\iw B w' b sv l
 |some (all,r)=>∃lv sv,e=.returned (.tuple #[lv,.bool (decide (0<all.length))])/\iw B w' b sv r/\SG (dF f) 1 (vV w.heap.size w') w' lv all
end
theorem LG.stp{C:ug Simple}{S:Nat->Prop}{w:World}{l:List Step}{g o i:Nat}(h:LG (kU C) 2 S w l g o)(hi:i<l.length):∃av,w.cell? ⟨g,o+i*2,none⟩=some (.int .i64 (Ja l[i].1))/\w.cell? ⟨g,o+i*2+1,none⟩=some av/\SG C 1 S w av l[i].2/\S g:=by
 obtain⟨h0,cs,⟨av,rfl,hs⟩,hc⟩:=h.at l g o i hi;refine⟨av,?_,?_,hs,h0⟩
 .have:=hc 0 _ rfl;rwa[Nat.add_zero]at this
 .exact hc 1 _ rfl
theorem LG.prt{f:Nat}{S:Nat->Prop}{w:World}{l:List Simple}{g o i:Nat}(h:LG (dF f) 1 S w l g o)(hi:i<l.length):∃pv,w.cell? ⟨g,o+i,none⟩=some pv/\dF f S w l[i] [pv]/\S g:=by
 obtain⟨h0,cs,hC,hc⟩:=h.at l g o i hi;have hl:=dF.sized f _ _ _ _ hC;obtain⟨pv,rfl⟩:∃pv,cs=[pv]:=by
  match cs,hl with
  |[pv],_=>exact⟨pv,rfl⟩
 refine⟨pv,?_,hC,h0⟩;have:=hc 0 _ rfl;rw[Nat.mul_one,Nat.add_zero]at this;exact this
def S2(w:World)(b:Nat)(x0 x1:Value):Prop:=w.heap[b]?=some (.cells #[x0,x1] 204 (0,0))
theorem S2.cs{w:World}{b:Nat}{x0 x1:Value}(h:S2 w b x0 x1):w.cell? ⟨b,0,none⟩=some x0/\w.cell? ⟨b,1,none⟩=some x1:=by have h':w.heap[b]?=_:=h;refine⟨?_,?_⟩<;>(unfold World.cell?;rw[h'];rfl)
theorem S2.lt{w:World}{b:Nat}{x0 x1:Value}(h:S2 w b x0 x1):b<w.heap.size:=(Array.getElem?_eq_some_iff.1 h).1
theorem S2.new(w:World)(x0 x1:Value):S2 (w.alloc (.cells #[x0,x1] 204)) w.heap.size x0 x1:=heap_alloc_new w _
theorem S2.keep{w w':World}{b:Nat}{x0 x1:Value}(h:S2 w b x0 x1)(hb:w'.heap[b]?=w.heap[b]?):S2 w' b x0 x1:=by show _=_;rw[hb];exact h
structure CwI(w:World)(cx:List Step)(u:Value)(ps:List ByteArray)(rest:ByteArray)(wr:World):Prop where
 row:wr.ownsRow w.heap.size 9 1 u ps.length (ps.map Value.string)
 below:Below w.heap.size w wr
 eq:dJ cx=aB ps++rest
theorem Ut{cx:List Step}{i:Nat}(h:i<cx.length):dJ (cx.drop i)=kX cx[i].1++(lq cx[i].2++dJ (cx.drop (i+1))):=by rw[List.drop_eq_getElem_cons h];generalize cx[i]=st;obtain⟨b,all⟩:=st;show(kX b++lq all)++_=_;rw[ByteArray.append_assoc]
theorem aac{cx:List Step}{i:Nat}(h:i<cx.length):zC (cx.drop i)=3+zA cx[i].2+zC (cx.drop (i+1)):=by rw[List.drop_eq_getElem_cons h];generalize cx[i]=st;obtain⟨b,all⟩:=st;rfl
theorem Xy:∀(l:List Simple),120*l.length<=zA l
 |[]=>by simp
 |s::r=>by have:=Xy r;obtain⟨k,nm,how,v,l,p⟩:=s;unfold zA zS;simp only[List.length_cons];omega
theorem Uu{l:List Simple}{i:Nat}(h:i<l.length):lq (l.drop i)=sK l[i]++lq (l.drop (i+1)):=by rw[List.drop_eq_getElem_cons h];rfl
theorem abZ:∀(cx:List Step) (i:Nat) (_:Nb cx) (h:i<cx.length),vI cx[i].2
 |(b,all)::r,0,h,_=>by simp only[Nb]at h;exact h.2.1
 |(b,all)::r,i+1,h,hi=>by simp only[Nb]at h;exact(Xb r i h.2.2 (by simpa using hi)).2
theorem Xz:∀(l:List Simple) (i:Nat) (h:i<l.length),zS l[i]<=zA l
 |s::r,0,_=>by unfold zA;simp
 |s::r,i+1,h=>by have:=Xz r i (by simpa using h);unfold zA;simp only[List.getElem_cons_succ];omega
def NK (f B : Nat) (w : World) : Prop := ∀ (s : Simple) (pv : Value) (w' : World), Below w.heap.size w w' → dF f (fun b => b < B) w' s [pv] → Na s → zS s ≤ 549755813888 → ∃ T u K rcv, pv = .iface T u ∧ (∀ W : World, (method 498 T u "rinse/selectors.written").run prog W = .ok (K, rcv) W) ∧ (∀ (args : Array Value) (W : World), (callFunc K args).run prog W = .ok (.enter K args) W) ∧
 Calls prog K #[rcv] w' fun e w''=>e=.returned (.string (sK s))/\Below w'.heap.size w' w''
theorem Jh(f B:Nat)(cx:List Step)(v:Value)(w:World)(h:SG (kU (dF f)) 2 (fun b=>b<B) w v cx)(hB:B<=w.heap.size)(hP:NK f B w)(hq:Nb cx)(hz:zC cx<=549755813888)(hd:ig):
  Calls prog 177 #[v] w fun e w'=>e=.returned (.string (dJ cx))/\Below w.heap.size w w':=by
 have hl:=h.len;have HS:Hid (SG (kU (dF f)) 2 (fun b=>b<B) w v cx):=h;have HP:Hid (NK f B w):=hP;have HQ:Hid (Nb cx):=hq;have HZ:Hid ((dJ cx).size<=549755813888):=Nat.le_trans (pR hd cx hq) hz;have hF:Hid (Fair (kU (dF f))):=kU.fair (dF.fair f);have hF2:Hid (Fair (dF f)):=dF.fair f;obtain⟨a,cap,rfl⟩:=h.form;clear h hP hq;obtain⟨iS,uh⟩:=jV;have HI:Hid (prog.info? 9=some iS/\iS.zero=some (.string ⟨#[]⟩)/\iS.size=1/\iS.bytes=16):=uh;clear uh;go_in;go_wp2_with fail;go_loopg[3,10] cx.length (fun gg v3 v10 wr=>∃(u:Value) (ps:List ByteArray) (i:Nat),u=v3/\v10=.int .i64 (i:Int)/\i+gg=cx.length/\ps.length+zC (cx.drop i)<=zC cx/\Aside (CwI w cx u ps (dJ (cx.drop i)) wr))
 case atStart=>exact⟨_,[],0,rfl,rfl,oo,by simp,World.ownsRow_nil _ _ _ _,Below.refl _ _,by rw[show aB []=aA from rfl,dP];rfl⟩
 case round=>
  obtain⟨go,hgo⟩:∃go,go=gk:=⟨_,rfl⟩;obtain⟨u,ps,i,rfl,rfl,hi,hpl,hA⟩:=hrel;have HC:Hid (CwI w cx u ps (dJ (cx.drop i)) wr):=hA.o;clear hA;have hsr:=HC.o.below.size;by_cases hlt:i<cx.length
  .have h1:(i:Int)<(cx.length:Int):=oo;obtain⟨g,o,rfl,hL,hcap⟩:=HS.o.here (by rintro rfl;simp at hlt);obtain⟨av,d0,d1,hav,hgB⟩:=hL.stp (i:=i) hlt;have adA:g<B:=hgB;rw[<-HC.o.below.cell (p:=⟨g,_,none⟩) (show g<w.heap.size by omega)]at d0 d1;have HQA:Hid (vI cx[i].2):=abZ cx i HQ.o hlt;have hzd:=aac hlt;have hza:=Xy cx[i].2;have HD:Hid (dJ (cx.drop i)=kX cx[i].1++(lq cx[i].2++dJ (cx.drop (i+1)))):=Ut hlt;obtain⟨⟨cb,all⟩,hst⟩:∃st,st=cx[i]:=⟨_,rfl⟩;rw[<-hst]at d0 hav HD hzd hza HQA;have aeJ:Hid (vI all):=HQA.o;clear HQA;have hzd':zC (cx.drop i)=3+zA all+zC (cx.drop (i+1)):=hzd;have afE:120*all.length<=zA all:=hza;clear hzd hza;obtain⟨n0,hn0⟩:∃n0,n0=ps.length:=⟨_,rfl⟩;have Hn0:Hid (n0=ps.length):=hn0;have hn0z:n0+zC (cx.drop i)<=zC cx:=oo;clear hn0;have HAV:Hid (SG (dF f) 1 (fun b=>b<B) w av all):=hav
   have hal:=hav.len;obtain⟨la,lc,rfl⟩:=hav.form;clear hst hav hL;have T2:Hid (S2 (wr.alloc (.cells #[.int .i64 (Ja cb),.slice la all.length lc] 204)) wr.heap.size (.int .i64 (Ja cb)) (.slice la all.length lc)):=S2.new _ _ _;have X2:Hid (Below wr.heap.size wr (wr.alloc (.cells #[.int .i64 (Ja cb),.slice la all.length lc] 204))):=(Below.refl _ _).alloc nl _;go_upto_region 5 with fail
   generalize wr.alloc (.cells #[.int .i64 (Ja cb),.slice la all.length lc] 204)=w2 at *;obtain⟨gt,oU⟩:∃gt,Hid (wr.heap.size=gt):=⟨_,hid rfl⟩;have T3:Hid (S2 w2 gt (.int .i64 (Ja cb)) (.slice la all.length lc)):=by rw[<-oU.o];exact T2.o
   rw[oU.o];clear T2 d0 d1;obtain⟨a0,a1⟩:=T3.o.cs;have B2:Hid (Below w.heap.size w w2):=HC.o.below.trans (X2.o.mono hsr);have O2:Hid (w2.ownsRow w.heap.size 9 1 u ps.length (ps.map Value.string)):=aX HC.o.row fun r hr=>X2.o.block r (HC.o.row.lt r hr).2;have hs2:=X2.o.size;go_wp2_with fail;refine pmb (ZJ cb _) fun wq hwq=>?_;rw[hwq];clear hwq;go_wp2_with(at_builtin;go_must(refine wpList_append_own _ rfl _ _ 22 rfl w.heap.size 9 iS (.string ⟨#[]⟩) 1 16 Tryz.underlying22 HI.o.1 HI.o.2.1 HI.o.2.2.1 HI.o.2.2.2 rfl oo u ps.length (ps.map Value.string) rfl (O2.o.alloc _) ⟨w2.heap.size,0,none⟩ 1 1 [.string (kX cb)] rfl rfl (cell_one_new _ _ _) (bf _) (by unfold maxLen;omega) oo (by simp;omega) ?_));intro v4 w4 hown4 bG _;have hne:u.ownBlock≠some gt:=fun e=>by have:=(HC.o.row.lt gt e).2;have:=oU.o;omega
   have hlo:∀rr,u.ownBlock=some rr->w.heap.size<=rr:=fun rr hr=>(O2.o.lt rr hr).1;have hb4:Below w.heap.size w2 w4:=((Below.refl _ _).alloc oo _).grown bG (by simp;omega) hlo;have T4:Hid (S2 w4 gt (.int .i64 (Ja cb)) (.slice la all.length lc)):=T3.o.keep (by rw[bG.block gt (by simp;have:=T3.o.lt;omega) (fun e=>hne e.symm),Below.heap_alloc _ _ _ T3.o.lt]);have Du:Hid (CwI w cx v4 (ps++[kX cb]) (lq all++dJ (cx.drop (i+1))) w4):=⟨by first|(rw[List.length_append,List.map_append];exact hown4)|simpa using hown4,B2.o.trans hb4,by rw[HC.o.eq,HD.o,bU,ByteArray.append_assoc]⟩;have afF:(ps++[kX cb]).length<=n0+1:=by have:=Hn0.o;simp;omega
   clear hown4 bG hb4 hne hlo a0 a1;obtain⟨a0,a1⟩:=T4.o.cs;go_wp2_with fail;go_loopg[3,23] all.length (fun gg v3 v23 wr=>∃(u:Value) (ps:List ByteArray) (m:Nat),u=v3/\v23=.int .i64 (m:Int)/\m+gg=all.length/\ps.length<=n0+1+m/\Aside (CwI w cx u ps (lq (all.drop m)++dJ (cx.drop (i+1))) wr));case atStart=>exact⟨_,ps++[kX cb],0,rfl,rfl,oo,oo,Du.o⟩
   case round=>
    obtain⟨gi,hgi⟩:∃gi,gi=gk:=⟨_,rfl⟩;obtain⟨u,ps,m,rfl,rfl,hm,hpl,hA⟩:=hrel;have Qp:Hid (CwI w cx u ps (lq (all.drop m)++dJ (cx.drop (i+1))) wr):=hA.o;clear hA;by_cases hlm:m<all.length
    .have h2:(m:Int)<(all.length:Int):=oo;have aeK:=Qp.o.below.size;have adH:=HAV.o.below hF2.o Qp.o.below hB;obtain⟨g5,o5,rfl,hL5,hcap5⟩:=adH.here (by rintro rfl;simp at hlm);obtain⟨pv,c5,hps,_⟩:=hL5.prt (i:=m) hlm;have HAD:Hid (lq (all.drop m)=sK all[m]++lq (all.drop (m+1))):=Uu hlm;have hqs:=Xc all m aeJ.o hlm;have hzs:=Xz all m hlm;obtain⟨s,hs⟩:∃s,s=all[m]:=⟨_,rfl⟩;rw[<-hs]at hps HAD hqs hzs;clear hs hL5 adH;obtain⟨T,pu,K,rcv,rfl,adI,hcall,hC⟩:=HP.o s pv wr Qp.o.below hps hqs oo;have HCK:Hid (Calls prog K #[rcv] wr fun e w''=>e=.returned (.string (sK s))/\Below wr.heap.size wr w''):=hC;clear hps hqs hzs hC;go_wp2_with fail;refine HCK.o.mono ?_;rintro e w6 ⟨rfl,hb6⟩;have B6:Hid (Below w.heap.size w w6):=Qp.o.below.trans (hb6.mono aeK)
     have O6:Hid (w6.ownsRow w.heap.size 9 1 u ps.length (ps.map Value.string)):=aX Qp.o.row fun r hr=>hb6.block r (Qp.o.row.lt r hr).2;have hs6:=B6.o.size;clear hb6 HCK adI hcall c5;go_wp2_with(at_builtin;go_must(refine wpList_append_own _ rfl _ _ 22 rfl w.heap.size 9 iS (.string ⟨#[]⟩) 1 16 Tryz.underlying22 HI.o.1 HI.o.2.1 HI.o.2.2.1 HI.o.2.2.2 rfl oo u ps.length (ps.map Value.string) rfl (O6.o.alloc _) ⟨w6.heap.size,0,none⟩ 1 1 [.string (sK s)] rfl rfl (cell_one_new _ _ _) (bf _) (by unfold maxLen;omega) oo (by simp;omega) ?_));intro v7 w7 XA adJ _;have adK:∀rr,u.ownBlock=some rr->w.heap.size<=rr:=fun rr hr=>(O6.o.lt rr hr).1
     have HC7:Hid (CwI w cx v7 (ps++[sK s]) (lq (all.drop (m+1))++dJ (cx.drop (i+1))) w7):=⟨by first|(rw[List.length_append,List.map_append];exact XA)|simpa using XA,(B6.o.alloc hs6 _).grown adJ (by simp;omega) adK,by rw[Qp.o.eq,HAD.o,bU,ByteArray.append_assoc,ByteArray.append_assoc]⟩;have aeL:(ps++[sK s]).length<=n0+1+(m+1):=by simp;omega
     clear XA adJ adK;go_wp2_with fail;go_roundg(gi-1);case measure=>omega
     case rel=>exact⟨_,ps++[sK s],m+1,rfl,by congr 1,oo,aeL,HC7.o⟩
    .have h2:(all.length:Int)<=(m:Int):=oo;have AX:Hid (CwI w cx u ps (dJ (cx.drop (i+1))) wr):=⟨Qp.o.row,Qp.o.below,by rw[Qp.o.eq,List.drop_of_length_le oo];show _++(aA++_)=_;rw[dP]⟩;go_wp2_with fail;go_roundg(go-1);case measure=>omega
     case rel=>exact⟨_,ps,i+1,rfl,by congr 1,oo,oo,AX.o⟩
  .have h1:(cx.length:Int)<=(i:Int):=oo;have HV:Hid (aB ps=dJ cx):=by
    show _=_;rw[HC.o.eq,List.drop_of_length_le oo];exact(jL _).symm
   have hpt:total ps<=549755813888:=by rw[<-kE,HV.o];exact HZ.o
   go_wp2_with fail;refine pmb (eG ps w.heap.size u _ HC.o.row oo oo) fun w5 hb5=>?_;have B5:Hid (Below w.heap.size w w5):=HC.o.below.trans (hb5.mono hsr);clear hb5;go_wp2_with fail;go_ret;exact⟨iW HV.o,B5.o⟩
end Go.Proofs.YtlliliddljkbfaaGreatDoor
