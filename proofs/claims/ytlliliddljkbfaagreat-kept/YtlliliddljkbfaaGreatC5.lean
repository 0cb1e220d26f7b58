import Derived.Test.YtlliliddljkbfaaGreatC4
set_option maxHeartbeats 64000000
set_option maxRecDepth 100000
namespace Go.Proofs.YtlliliddljkbfaaGreat
open Go.Proofs.Tryz (prog)
open Go.RowKit Sp
section
attribute [local go_sem] bI bJ aX aY
def sg(i:Nat):BY:=if i=0 then b1 126 else if i=1 then b1 94 else if i=2 then b1 36 else b1 42
def zF(l:List Nd):Nat->BY×List Nd
 |0=>(aA,l)
 |i+1=>if (zF l i).1=aA/\au (hdN (zF l i).2).t (sg i)=true then(sg i,(zF l i).2.tail) else zF l i
def CS(t:Tok):Bool:=au t (b1 126)||au t (b1 94)||au t (b1 36)||au t (b1 42)
def Iu(l:List Nd):BY:=if CS (hdN l).t=true then(hdN l).t.word else aA
def um(l:List Nd):List Nd:=if CS (hdN l).t=true then l.tail else l
theorem vJ{t:Tok}{s:BY}(h:au t s=true):t.word=s:=by simp[au]at h;exact h.2
set_option linter.unusedSimpArgs false in
theorem acz(l:List Nd):zF l 4=(Iu l,um l):=by
 have n0:sg 0≠aA:=by decide
 have n1:sg 1≠aA:=by decide
 have n2:sg 2≠aA:=by decide
 unfold Iu um CS;have e0:b1 126=sg 0:=rfl;have e1:b1 94=sg 1:=rfl;have e2:b1 36=sg 2:=rfl;have e3:b1 42=sg 3:=rfl;rw[e0,e1,e2,e3];simp only[zF];cases h0:au (hdN l).t (sg 0)
 .cases h1:au (hdN l).t (sg 1)
  .cases h2:au (hdN l).t (sg 2)
   .cases h3:au (hdN l).t (sg 3)
    .simp[h0,h1,h2,h3]
    .simp[h0,h1,h2,h3,vJ h3]
   .simp[h0,h1,h2,n2,vJ h2]
  .simp[h0,h1,n1,vJ h1]
 .simp[h0,n0,vJ h0]
theorem YA(l:List Nd):∀i,(zF l i).1.size<=1
 |0=>by show(0:Nat)<=1;omega
 |i+1=>by
  unfold zF;split
  .show(sg i).size<=1;unfold sg;repeat' split
   all_goals decide
  .exact YA l i
theorem amr:∀(i:Nat) (_:i<4) (W:WD),(Instr.index 347 (.agg #[.string ⟨#[126]⟩,.string ⟨#[94]⟩,.string ⟨#[36]⟩,.string ⟨#[42]⟩]) (.int .i64 (i:Int))).run prog W=.ok (.string (sg i)) W
 |0,_,W=>(by kernel_rfl:(Instr.index 347 (.agg #[.string ⟨#[126]⟩,.string ⟨#[94]⟩,.string ⟨#[36]⟩,.string ⟨#[42]⟩]) (.int .i64 ((0:Nat):Int))).run prog W=.ok (.string (sg 0)) W)
 |1,_,W=>(by kernel_rfl:(Instr.index 347 (.agg #[.string ⟨#[126]⟩,.string ⟨#[94]⟩,.string ⟨#[36]⟩,.string ⟨#[42]⟩]) (.int .i64 ((1:Nat):Int))).run prog W=.ok (.string (sg 1)) W)
 |2,_,W=>(by kernel_rfl:(Instr.index 347 (.agg #[.string ⟨#[126]⟩,.string ⟨#[94]⟩,.string ⟨#[36]⟩,.string ⟨#[42]⟩]) (.int .i64 ((2:Nat):Int))).run prog W=.ok (.string (sg 2)) W)
 |3,_,W=>(by kernel_rfl:(Instr.index 347 (.agg #[.string ⟨#[126]⟩,.string ⟨#[94]⟩,.string ⟨#[36]⟩,.string ⟨#[42]⟩]) (.int .i64 ((3:Nat):Int))).run prog W=.ok (.string (sg 3)) W)
theorem ams(w:WD)(a b:BY):(w.alloc (.cells #[.string a,.string b] 9)).ownsRow w.heap.size 9 1 (.slice (some ⟨w.heap.size,0,none⟩) 2 2) 2 ([a,b].map Value.string):=⟨rfl,.inr ⟨w.heap.size,2,_,rfl,Nat.le_refl _,heap_alloc_new w _,Nat.le_refl _,by unfold maxLen;omega,rfl,rfl⟩⟩
theorem VK(B b:Nat)(sv:Av)(l:List Nd)(w:WD)(h:fV B w b sv l):
  Calls prog 304 #[.pointer (some ⟨b,0,none⟩)] w fun e w'=>∃sv',e=.returned (.tuple #[.string (Iu l++b1 61),.bool (au (hdN (um l)).t (b1 61))])/\fV B w' b sv' (zy (b1 61) (um l))/\Turn b w w':=by
 have R1:=hid h;clear h;go_in;go_wp2_with fail;go_loopg[4,8] 4 (fun g v4 v8 wr=>∃(i:Nat) (sv:Av) (kd:BY) (cur:List Nd),i+g=4/\v8=.int .i64 (i:Int)/\v4=.string kd/\Aside (fV B wr b sv cur/\Turn b w wr/\zF l i=(kd,cur)));case atStart=>exact⟨0,sv,_,l,oo,rfl,rfl,R1.o,Turn.refl _ _,rfl⟩
 case round=>
  obtain⟨i,sv,kd,cur,hi,rfl,rfl,hA⟩:=hrel;have R2:=hid hA.o.1;have T2:=hid hA.o.2.1;have HE:=hid hA.o.2.2;clear hA R1;by_cases hlt:i<4
  .have h1:(i:Int)<4:=oo;have hix:=amr i hlt;obtain⟨s,Hs⟩:=Nm (sg i);rw[Hs.o]at hix;cases hk:(kd.toList==([]:List UInt8))
   .have hk':¬kd=aA:=by rw[ay]at hk;simpa[aA]using hk
    have HN:Hid (zF l (i+1)=(kd,cur)):=by show _=_;unfold zF;rw[HE.o,if_neg (fun q=>hk' q.1)]
    clear hk';go_wp2_with fail;go_roundg(4-(i+1));case measure=>omega
    case rel=>exact⟨i+1,sv,kd,cur,oo,by congr 1,rfl,R2.o,T2.o,HN.o⟩
   .have hk':kd=aA:=by rw[ay]at hk;simpa[aA]using hk
    have HK:=hid hk';clear hk';go_wp2_with fail;refine(oP B b sv cur s _ R2.o).mono ?_;rintro e w3 ⟨Em,rfl,D7,Ox⟩;have T3:=hid (T2.o.trans Ox);clear Ox;obtain⟨c,Hc⟩:=Nm (au (hdN cur).t s);rw[Hc.o];cases c
    .have R3:Hid (fV B w3 b Em cur):=by have:=D7;rw[y5 Hc.o]at this;exact this
     have HN:Hid (zF l (i+1)=(kd,cur)):=by show _=_;unfold zF;rw[HE.o,Hs.o,if_neg (fun q=>by have:=q.2;rw[Hc.o]at this;cases this)]
     clear D7;go_wp2_with fail;go_roundg(4-(i+1));case measure=>omega
     case rel=>exact⟨i+1,Em,kd,cur,oo,by congr 1,rfl,R3.o,T3.o,HN.o⟩
    .have R3:Hid (fV B w3 b Em cur.tail):=by have:=D7;rw[qZ Hc.o]at this;exact this
     have HN:Hid (zF l (i+1)=(s,cur.tail)):=by show _=_;unfold zF;rw[HE.o,Hs.o,if_pos ⟨HK.o,Hc.o⟩]
     clear D7;go_wp2_with fail;go_roundg(4-(i+1));case measure=>omega
     case rel=>exact⟨i+1,Em,s,cur.tail,oo,by congr 1,rfl,R3.o,T3.o,HN.o⟩
  .have h1:(4:Int)<=(i:Int):=oo;obtain rfl:i=4:=oo;have hsz:kd.size<=1:=by have:=YA l 4;rw[HE.o]at this;exact this
   have HE2:Hid (Iu l=kd/\um l=cur):=by have:=HE.o;rw[acz]at this;exact⟨(Prod.mk.inj this).1,(Prod.mk.inj this).2⟩
   go_wp2_with fail;refine pmb (dQ [kd,b1 61] wr.heap.size _ _ (ams wr kd (b1 61)) Aa (by simp[total];have:(b1 61).size=1:=rfl;omega)) fun w3 hb3=>?_;have R3:Hid (fV B w3 b sv cur):=(R2.o.alloc _).below hb3;have T3:Hid (Turn b w w3):=(T2.o.alloc _).trans (Turn.of_below hb3);have HJ:Hid (aG [kd,b1 61]=kd++b1 61):=by show _=_;simp[aG]
   clear hb3;rw[HJ.o];go_wp2_with fail;refine(oP B b sv cur (b1 61) _ R3.o).mono ?_;rintro e w4 ⟨sv4,rfl,ZR,hT4⟩;have R4:=hid ZR;have T4:=hid (T3.o.trans hT4);clear ZR hT4;go_wp2_with fail;go_ret2
   rw[HE2.o.1,HE2.o.2];exact⟨sv4,rfl,R4.o,T4.o⟩
end
section
attribute [local go_sem] bI bJ aX aY
def Qg(l:List Nd):Prop:=∀x,l.getLast?=some x->x.t.kind≠1
theorem Qg.tail{n:Nd}{r:List Nd}(h:Qg (n::r)):Qg r:=by
 intro x hx;cases r with
 |nil=>simp at hx
 |cons m q=>exact h x (by rw[List.getLast?_cons_cons];exact hx)
theorem Qg.drop{l:List Nd}(h:Qg l):Qg (aH l):=by
 induction l with
 |nil=>exact h
 |cons n r ih=>
  by_cases hk:n.t.kind=1
  .rw[pU hk];exact ih h.tail
  .rw[pV hk];exact h
theorem Qg.trim{l:List Nd}(h:Qg l):lJ l=l:=by
 rcases Yr l with rfl|⟨i,x,rfl⟩
 .rfl
 .exact Fa (h x Aa)
theorem Qg.bare{l:List Nd}(h:Qg l):bare l=aH l:=by unfold Sp.bare;exact h.drop.trim
theorem VL{l:List Nd}{n:Nd}{r:List Nd}(h:aH l=n::r):n.t.kind≠1:=by
 induction l with
 |nil=>simp[aH]at h
 |cons m q ih=>
  by_cases hk:m.t.kind=1
  .rw[pU hk]at h;exact ih h
  .rw[pV hk]at h;cases h;exact hk
theorem Qg.YB(l:List Nd):Qg (Sp.bare l):=by
 intro x hx;unfold Sp.bare lJ at hx;cases hd:aH (aH l).reverse with
 |nil=>rw[hd]at hx;simp at hx
 |cons n r=>rw[hd]at hx;simp at hx;subst hx;exact VL hd
def Le(k:Int)(l2:List Nd):Bool:=(au (hdN l2).t (b1 61)&&((k==14)&&((hdN (aH (zy (b1 61) l2))).t.kind==14||(hdN (aH (zy (b1 61) l2))).t.kind==2)))&&(aH (zy (b1 61) l2)).tail.length==0
def QS(d:List Nd):Bool:=Le (hdN d).t.kind (um (aH d.tail))
def wW(d:List Nd):Option Simple:=
 if aH d.tail=[] then(if (hdN d).t.kind=14 then some (Simple.of 91 (hdN d).t.word) else none)
 else if QS d=true then some (.mk 91 (hdN d).t.word (Iu (aH d.tail)++b1 61) (hdN (aH (zy (b1 61) (um (aH d.tail))))).t.word [] 0) else none
theorem aik:(hdN []).t.kind=0:=rfl
theorem Iw{t:Tok}{s:BY}(h:t.kind≠15):au t s=false:=by simp[au,h]
theorem acA{t:Tok}(h:t.kind=15):CS t=decide (t.word=b1 126\/t.word=b1 94\/t.word=b1 36\/t.word=b1 42):=by unfold CS au;simp only[h,decide_true,Bool.true_and,Bool.decide_or,Bool.or_assoc]
theorem acB{d:List Nd}(hd:Qg d):gG d=wW d:=by
 cases d with
 |nil=>rfl
 |cons n r=>
  have hr:Qg r:=hd.tail;have hn:(hdN (n::r))=n:=rfl;have hcase:aH r=[]\/∃m r1,aH r=m::r1:=by
   cases aH r with
   |nil=>exact .inl rfl
   |cons m r1=>exact .inr ⟨m,r1,rfl⟩
  unfold gG wW;rcases hcase with hl|⟨m,r1,hl⟩
  .simp only[List.tail_cons,hr.bare,hl,hn,if_true];by_cases hk:n.t.kind=14
   .rw[if_neg oo,if_pos hk]
   .rw[if_pos hk,if_neg hk]
  .simp only[List.tail_cons,hr.bare,hl];rw[if_neg (by simp:¬(m::r1=[]))];have hm:Qg (m::r1):=by rw[<-hl];exact hr.drop
   by_cases hk:n.t.kind=14
   .rw[if_neg oo];by_cases h15:m.t.kind=15
    .rw[if_neg oo];have hrel:=acA h15;have hhm:hdN (m::r1)=m:=rfl;have key:∀(l2:List Nd) (hw:BY),Qg l2->um (aH r)=l2->Iu (aH r)=hw ->
       (match l2 with
        |[]=>none
        |q::r2=>match Sp.bare r2 with
         |[v]=>if dN q (b1 61)=true/\(v.t.kind=14\/v.t.kind=2) then some (Simple.mk 91 n.t.word (hw++b1 61) v.t.word [] 0) else none
         |_=>none) =
       if QS (n::r)=true then some (Simple.mk 91 (hdN (n::r)).t.word (Iu (m::r1)++b1 61) (hdN (aH (zy (b1 61) (um (m::r1))))).t.word [] 0) else none:=by
      intro l2 hw hl2 e1 e2;rw[show QS (n::r)=Le n.t.kind (um (aH r)) from rfl,<-hl,e1,e2,hn];unfold Le;cases l2 with
      |nil=>rw[xK];rfl
      |cons q r2=>
       have hq:hdN (q::r2)=q:=rfl;rw[hq];simp only;rw[(hl2.tail).bare];cases hs:au q.t (b1 61)
       .simp only[dN,hs];cases aH r2 with
        |nil=>rfl
        |cons v q2=>cases q2<;>simp
       .have ho:zy (b1 61) (q::r2)=r2:=qZ hs;rw[ho];simp only[dN,hs];cases hv:aH r2 with
        |nil=>simp[hdN,Tok.k]
        |cons v q2=>
         cases q2 with
         |nil=>simp[hdN,hk]
         |cons v2 q3=>simp
     by_cases hh:m.t.word=b1 126\/m.t.word=b1 94\/m.t.word=b1 36\/m.t.word=b1 42
     .have hi:CS m.t=true:=by rw[hrel,decide_eq_true hh]
      simp only[if_pos hh];exact key r1 m.t.word hm.tail (by rw[hl];unfold um;rw[hhm,if_pos hi];rfl) (by rw[hl];unfold Iu;rw[hhm,if_pos hi])
     .have hi:¬CS m.t=true:=by rw[hrel,decide_eq_false hh];simp
      simp only[if_neg hh];exact key (m::r1) aA hm (by rw[hl];unfold um;rw[hhm,if_neg hi]) (by rw[hl];unfold Iu;rw[hhm,if_neg hi])
    .rw[if_pos h15];have hi:CS m.t=false:=by unfold CS;simp[Iw h15]
     have:QS (n::r)=false:=by
      rw[show QS (n::r)=Le n.t.kind (um (aH r)) from rfl,hl];unfold Le;have:um (m::r1)=m::r1:=by unfold um;rw[show hdN (m::r1)=m from rfl,hi];rfl
      rw[this,show hdN (m::r1)=m from rfl,Iw h15];rfl
     rw[this];rfl
   .rw[if_pos hk];have:QS (n::r)=false:=by
     rw[show QS (n::r)=Le n.t.kind (um (aH r)) from rfl];unfold Le;simp[hk]
    rw[this];rfl
end
section
attribute [local go_sem] bI bJ aX aY
theorem AL(nm h v:BY)(lv:Av)(p:Nat):fE 91 nm h v lv p=.iface 341 (.agg #[.string nm,.string h,.string v]):=by unfold fE;rw[if_neg oo,if_neg oo,if_neg oo,if_pos rfl]
theorem fV.new{B:Nat}{w:WD}{v:Av}{l:List Nd}(h:Sl (fun k=>k<B) w v l)(hB:B<=w.heap.size):fV B (w.alloc (.cells #[v] 270)) w.heap.size v l:=⟨heap_alloc_new w _,h.below ((Below.refl w.heap.size w).alloc nl _) hB,hB⟩
theorem Turn.over{b:Nat}{w w1 w':WD}(h0:Below w.heap.size w w1)(h:Turn b w1 w')(hb:w.heap.size<=b):Below w.heap.size w w':=h0.trans ⟨h.os,h.tape,h.output,h.size,fun k hk=>h.block k (by have:=h0.size;omega) oo⟩
def akZ(o:Option Simple)(e:Ending):Prop:=
 match o with
 |none=>∃pv,e=.returned (.tuple #[pv,.bool false])
 |some (.mk k nm h v _ p)=>e=.returned (.tuple #[fE k nm h v (.slice none 0 0) p,.bool true])
theorem VN(B:Nat)(l:List Nd)(v:Av)(w:WD)(h:Sl (fun b=>b<B) w v l)(hB:B<=w.heap.size):
  Calls prog 296 #[v] w fun e w'=>akZ (gG (bare l)) e/\Below w.heap.size w w':=by
 have HS:=hid h;clear h;have HE:Hid (gG (bare l)=wW (bare l)):=acB (Qg.YB l);obtain⟨d,Hd⟩:=Nm (bare l);rw[Hd.o]at HE;rw[Hd.o,HE.o];clear HE;obtain⟨a,cap,rfl⟩:=HS.o.form;go_in;go_wp2_with fail;refine(tu B l _ w HS.o).mono ?_;rw[Hd.o];rintro e w1 ⟨v1,rfl,hS1,rfl⟩;obtain⟨va,vc,rfl⟩:=hS1.form;have R1:Hid (fV B (w1.alloc (.cells #[.slice va d.length vc] 270)) w1.heap.size (.slice va d.length vc) d):=fV.new hS1 hB;have B1:Hid (Below w1.heap.size w1 (w1.alloc (.cells #[.slice va d.length vc] 270))):=As.alloc nl _;clear hS1 HS;go_upto_region 2 with fail
 generalize w1.alloc (.cells #[.slice va d.length vc] 270)=w2 at *;obtain⟨b,Hb⟩:=Nm w1.heap.size;have R2:Hid (fV B w2 b (.slice va d.length vc) d):=by rw[<-Hb.o];exact R1
 clear R1;rw[Hb.o];obtain⟨n,Hn⟩:=Nm (hdN d);go_wp2_with fail;refine(sN B b _ d _ R2.o).mono ?_;rw[Hn.o];rintro e w3 ⟨kv3,Em,rfl,hk3,D7,Ox⟩;obtain⟨ka,kc,rfl⟩:=hk3.form;have T3:=hid Ox;have R3:=hid D7;clear hk3 D7 Ox R2;unfold fB;have A4:Hid (VB (w3.alloc (.cells #[.int .i64 n.t.kind,.string n.t.word,.string n.t.unit,.slice ka n.kids.length kc] 199)) w3.heap.size (.int .i64 n.t.kind) (.string n.t.word) (.string n.t.unit) (.slice ka n.kids.length kc)):=VB.new _ _ _ _ _;have R4:Hid (fV B (w3.alloc (.cells #[.int .i64 n.t.kind,.string n.t.word,.string n.t.unit,.slice ka n.kids.length kc] 199)) b Em d.tail):=R3.o.alloc _;have T4:Hid (Turn b w2 (w3.alloc (.cells #[.int .i64 n.t.kind,.string n.t.word,.string n.t.unit,.slice ka n.kids.length kc] 199))):=T3.o.alloc _;have hb3:b<w3.heap.size:=R3.o.lt
 clear R3 T3;go_upto_region 3 with fail
 generalize w3.alloc (.cells #[.int .i64 n.t.kind,.string n.t.word,.string n.t.unit,.slice ka n.kids.length kc] 199)=w4 at *;generalize w3.heap.size=gn at *;obtain⟨r1,Hr1⟩:=Nm (aH d.tail);go_wp2_with fail;refine(y7 B b _ _ _ R4.o).mono ?_;rw[Hr1.o];rintro e w5 ⟨sv5,rfl,hR5,hT5⟩;have R5:=hid hR5;have T5:=hid (T4.o.trans hT5);have A5:=hid (A4.o.turn hT5 oo);clear hR5 hT5 R4 T4 A4;go_wp2_with fail;refine(vg B b _ _ _ R5.o).mono ?_;rintro e w6 ⟨rfl,rfl⟩;obtain⟨a0,a1,a2,a3⟩:=A5.o.cs;by_cases hr1:r1=[]
 .subst hr1;cases hk:(n.t.kind==14)
  .have HV:Hid (wW d=none):=by
    show _=_;unfold wW;rw[if_pos Hr1.o,Hn.o,if_neg (by simpa using hk)]
   go_wp2_with fail;go_quiet (fail)
   go_wp2_with fail;go_ret2
   exact⟨by rw[HV.o];exact⟨_,rfl⟩,Turn.over B1.o (T5.o.drewN _) (by rw[Hb.o];exact Nat.le_refl _)⟩
  .have HV:Hid (wW d=some (.mk 91 n.t.word aA aA [] 0)):=by
    show _=_;unfold wW;rw[if_pos Hr1.o,Hn.o,if_pos (by simpa using hk)];rfl
   go_wp2_with fail;go_quiet (fail)
   go_wp2_with fail;go_ret2
   exact⟨by rw[HV.o];show _=_;rw[AL];rfl,Turn.over B1.o (T5.o.drewN _) (by rw[Hb.o];exact Nat.le_refl _)⟩
 .have hl1:(r1.length==0)=false:=by
   cases r1 with
   |nil=>exact absurd rfl hr1
   |cons x y=>rfl
  have HV:Hid (wW d=if Le n.t.kind (um r1)=true then some (.mk 91 n.t.word (Iu r1++b1 61) (hdN (aH (zy (b1 61) (um r1)))).t.word [] 0) else none):=by show _=_;unfold wW QS;rw[if_neg (by rw[Hr1.o];exact hr1),Hn.o,Hr1.o]
  clear hr1;obtain⟨how,ak0⟩:=Nm (Iu r1++b1 61);obtain⟨l2,Hl2⟩:=Nm (um r1);obtain⟨eq,Heq⟩:=Nm (au (hdN l2).t (b1 61));obtain⟨l4,Hl4⟩:=Nm (aH (zy (b1 61) l2));obtain⟨m,Hm⟩:=Nm (hdN l4);have HQ:Hid (Le n.t.kind (um r1)=((eq&&((n.t.kind==14)&&(m.t.kind==14||m.t.kind==2)))&&(l4.tail.length==0))):=by show _=_;unfold Le;rw[Hl2.o,Heq.o,Hl4.o,Hm.o]
  have HV2:Hid (wW d=if ((eq&&((n.t.kind==14)&&(m.t.kind==14||m.t.kind==2)))&&(l4.tail.length==0))=true then some (.mk 91 n.t.word how m.t.word [] 0) else none):=by show _=_;rw[HV.o,HQ.o,ak0.o,Hl2.o,Hl4.o,Hm.o]
  clear HV HQ;go_wp2_with fail;refine(VK B b _ _ _ R5.o).mono ?_;rw[ak0.o,Hl2.o,Heq.o];rintro e w7 ⟨sv7,rfl,hR7,hT7⟩;have R7:=hid hR7;have T7:=hid (T5.o.trans hT7);have A7:=hid (A5.o.turn hT7 oo);clear hR7 hT7 R5 T5 A5 a0 a1 a2 a3;go_wp2_with fail;refine(y7 B b _ _ _ R7.o).mono ?_;rw[Hl4.o];rintro e w8 ⟨sv8,rfl,hR8,hT8⟩;have R8:=hid hR8;have T8:=hid (T7.o.trans hT8);have A8:=hid (A7.o.turn hT8 oo);clear hR8 hT8 R7 T7 A7;go_wp2_with fail;refine(sN B b _ _ _ R8.o).mono ?_;rw[Hm.o];rintro e w9 ⟨kv9,sv9,rfl,hk9,hR9,hT9⟩;obtain⟨ma,mc,rfl⟩:=hk9.form
  have R9:=hid hR9;have T9:=hid (T8.o.trans hT9);have A9:=hid (A8.o.turn hT9 oo);clear hk9 hR9 hT9 R8 T8 A8;unfold fB;have M10:Hid (VB (w9.alloc (.cells #[.int .i64 m.t.kind,.string m.t.word,.string m.t.unit,.slice ma m.kids.length mc] 199)) w9.heap.size (.int .i64 m.t.kind) (.string m.t.word) (.string m.t.unit) (.slice ma m.kids.length mc)):=VB.new _ _ _ _ _;have R10:Hid (fV B (w9.alloc (.cells #[.int .i64 m.t.kind,.string m.t.word,.string m.t.unit,.slice ma m.kids.length mc] 199)) b sv9 l4.tail):=R9.o.alloc _;have T10:Hid (Turn b w2 (w9.alloc (.cells #[.int .i64 m.t.kind,.string m.t.word,.string m.t.unit,.slice ma m.kids.length mc] 199))):=T9.o.alloc _
  have A10:Hid (VB (w9.alloc (.cells #[.int .i64 m.t.kind,.string m.t.word,.string m.t.unit,.slice ma m.kids.length mc] 199)) gn (.int .i64 n.t.kind) (.string n.t.word) (.string n.t.unit) (.slice ka n.kids.length kc)):=A9.o.alloc _;clear R9 T9 A9;go_upto_region 9 with fail
  generalize w9.alloc (.cells #[.int .i64 m.t.kind,.string m.t.word,.string m.t.unit,.slice ma m.kids.length mc] 199)=w10 at *;generalize w9.heap.size=gm at *;obtain⟨a0,a1,a2,a3⟩:=A10.o.cs;obtain⟨c0,c1,c2,c3⟩:=M10.o.cs;cases eq
  .have HN:Hid (wW d=none):=by show _=_;rw[HV2.o];rfl
   go_wp2_with fail;go_ret2
   exact⟨by rw[HN.o];exact⟨_,rfl⟩,Turn.over B1.o T10.o (by rw[Hb.o];exact Nat.le_refl _)⟩
  .cases kn:(n.t.kind==14)
   .have HN:Hid (wW d=none):=by show _=_;rw[HV2.o];simp[kn]
    go_wp2_with fail;go_ret2
    exact⟨by rw[HN.o];exact⟨_,rfl⟩,Turn.over B1.o T10.o (by rw[Hb.o];exact Nat.le_refl _)⟩
   .cases v14:(m.t.kind==14)
    .cases v2:(m.t.kind==2)
     .have HN:Hid (wW d=none):=by show _=_;rw[HV2.o];simp[kn,v14,v2]
      go_wp2_with fail;go_ret2
      exact⟨by rw[HN.o];exact⟨_,rfl⟩,Turn.over B1.o T10.o (by rw[Hb.o];exact Nat.le_refl _)⟩
     .go_wp2_with fail;refine(vg B b _ _ _ R10.o).mono ?_;rintro e w11 ⟨rfl,rfl⟩;obtain⟨z,Hz⟩:=Nm ((l4.tail.length==0));rw[Hz.o];cases z
      .have HN:Hid (wW d=none):=by show _=_;rw[HV2.o,Hz.o];simp
       go_wp2_with fail;go_ret2
       exact⟨by rw[HN.o];exact⟨_,rfl⟩,Turn.over B1.o T10.o (by rw[Hb.o];exact Nat.le_refl _)⟩
      .have HN:Hid (wW d=some (.mk 91 n.t.word how m.t.word [] 0)):=by show _=_;rw[HV2.o,Hz.o];simp[kn,v14,v2]
       go_wp2_with fail;go_ret2
       exact⟨by rw[HN.o];show _=_;rw[AL];rfl,Turn.over B1.o T10.o (by rw[Hb.o];exact Nat.le_refl _)⟩
    .go_wp2_with fail;refine(vg B b _ _ _ R10.o).mono ?_;rintro e w11 ⟨rfl,rfl⟩;obtain⟨z,Hz⟩:=Nm ((l4.tail.length==0));rw[Hz.o];cases z
     .have HN:Hid (wW d=none):=by show _=_;rw[HV2.o,Hz.o];simp
      go_wp2_with fail;go_ret2
      exact⟨by rw[HN.o];exact⟨_,rfl⟩,Turn.over B1.o T10.o (by rw[Hb.o];exact Nat.le_refl _)⟩
     .have HN:Hid (wW d=some (.mk 91 n.t.word how m.t.word [] 0)):=by show _=_;rw[HV2.o,Hz.o];simp[kn,v14]
      go_wp2_with fail;go_ret2
      exact⟨by rw[HN.o];show _=_;rw[AL];rfl,Turn.over B1.o T10.o (by rw[Hb.o];exact Nat.le_refl _)⟩
end
section
attribute [local go_sem] bI bJ aX aY
theorem QT{nm:BY}(h:stB nm=true)(lv:Av)(p:Nat):fE 58 nm aA aA lv p=.iface 343 (.agg #[.string nm]):=by
 have h':nm=BL\/nm=uY\/nm=BM\/nm=Eh:=by simpa[stB]using h
 unfold fE;rw[if_neg oo,if_neg oo,if_neg oo,if_neg oo];rcases h' with rfl|rfl|rfl|rfl<;>(rw[if_neg (by decide),if_neg (by decide),if_neg (by decide)])
theorem aai(lv:Av)(p:Nat):fE 58 nD aA aA lv p=.iface 345 (.agg #[lv]):=by unfold fE;rw[if_neg oo,if_neg oo,if_neg oo,if_neg oo,if_pos rfl]
theorem acC(lv:Av)(p:Nat):fE 58 DY aA aA lv p=.iface 346 (.agg #[lv]):=by unfold fE;rw[if_neg oo,if_neg oo,if_neg oo,if_neg oo,if_neg (by decide),if_pos rfl]
def stP(f:Nat)(o:Option Simple)(w w':WD)(e:Ending):Prop:=
 match o with
 |none=>∃pv,e=.returned (.tuple #[pv,.bool false])
 |some s=>∃pv,e=.returned (.tuple #[pv,.bool true])/\aQ f (oD w.heap.size w') w' s [pv]
def rdP(f:Nat)(l:List Nd)(w w':WD)(e:Ending):Prop:=
 match lM f l with
 |none=>e=.returned (.tuple #[.slice none 0 0,.bool false])
 |some ss=>∃sv,e=.returned (.tuple #[sv,.bool true])/\SG (AA (aQ f)) 1 (oD w.heap.size w') w' sv ss
def vK(f:Nat):Prop:=∀(B:Nat) (l:List Nd) (v:Av) (w:WD),depth l<=f->Sl (fun b=>b<B) w v l->B<=w.heap.size->Calls prog 73 #[v] w fun e w'=>rdP f l w w' e/\Below w.heap.size w w'
def Lh:Nat->Prop
 |0=>True
 |f+1=>vK f
theorem VO{rec:List Nd->Option bY}{n:Nd}(h:n.t.kind=14):bM rec n=if stB (small n.t.word)=true then some (Simple.of 58 (small n.t.word)) else none:=by unfold bM;simp only[if_pos h,stB,decide_eq_true_eq]
theorem Iz{rec:List Nd->Option bY}{n:Nd}(h:¬n.t.kind=14)(h2:¬n.t.kind=11):bM rec n=none:=by unfold bM;simp only[if_neg h];rw[if_pos h2]
theorem QU{rec:List Nd->Option bY}{n:Nd}(h2:n.t.kind=11)(h:small n.t.word=nG):bM rec n=(zD n.kids).map (fun p=>.mk 58 nG aA aA [] p):=by
 unfold bM;simp only[if_neg (show ¬n.t.kind=14 by omega)];rw[if_neg oo,h,if_neg (by decide),if_pos rfl];unfold zD aag;cases bare n.kids with
 |nil=>rfl
 |cons x r=>cases r<;>rfl
theorem CV{rec:List Nd->Option bY}{n:Nd}(h2:n.t.kind=11)(h:small n.t.word=nD\/small n.t.word=DY):bM rec n=(rec n.kids).map (fun l=>.mk 58 (small n.t.word) aA aA l 0):=by unfold bM;simp only[if_neg (show ¬n.t.kind=14 by omega)];rw[if_neg oo,if_pos h]
theorem Lj{rec:List Nd->Option bY}{n:Nd}(h2:n.t.kind=11)(h:¬small n.t.word=nD)(h':¬small n.t.word=DY)(h3:¬small n.t.word=nG):bM rec n=none:=by unfold bM;simp only[if_neg (show ¬n.t.kind=14 by omega)];rw[if_neg oo,if_neg (fun q=>q.elim h h'),if_neg h3]
theorem xO{w1 w2 w':WD}(h:w1.heap.size<=w2.heap.size):∀g,oD w2.heap.size w' g->oD w1.heap.size w' g:=fun _ hg=>⟨by have:=hg.1;omega,hg.2⟩
theorem QV(f:Nat)(hR:Lh f)(B:Nat)(n:Nd)(kv:Av)(w:WD)(hwd:n.t.word.size<=4000000)(hS:Sl (fun b=>b<B) w kv n.kids)(hB:B<=w.heap.size)(hd:n.t.kind=11->depth n.kids+1<=f):
  Calls prog 297 #[fB n.t kv] w fun e w'=>stP f (bM (dX f) n) w w' e/\Below w.heap.size w w':=by
 have HR:=hid hR;have HD:Hid (n.t.kind=11->depth n.kids+1<=f):=hd;obtain⟨ka,kc,rfl⟩:=hS.form;have A1:Hid (VB (w.alloc (.cells #[.int .i64 n.t.kind,.string n.t.word,.string n.t.unit,.slice ka n.kids.length kc] 199)) w.heap.size (.int .i64 n.t.kind) (.string n.t.word) (.string n.t.unit) (.slice ka n.kids.length kc)):=VB.new _ _ _ _ _;have B1:Hid (Below w.heap.size w (w.alloc (.cells #[.int .i64 n.t.kind,.string n.t.word,.string n.t.unit,.slice ka n.kids.length kc] 199))):=As.alloc nl _;have S1:=hid (hS.below B1.o hB);clear hR hd hS;obtain⟨nm,Aw⟩:=Nm (small n.t.word);unfold fB;go_in;go_upto_region 1 with fail
 generalize w.alloc (.cells #[.int .i64 n.t.kind,.string n.t.word,.string n.t.unit,.slice ka n.kids.length kc] 199)=w1 at *;obtain⟨gt,mV⟩:=Nm w.heap.size;have A2:Hid (VB w1 gt (.int .i64 n.t.kind) (.string n.t.word) (.string n.t.unit) (.slice ka n.kids.length kc)):=by rw[<-mV.o];exact A1
 rw[mV.o];clear A1;obtain⟨a0,a1,a2,a3⟩:=A2.o.cs;go_wp2_with fail;refine(nH n.t.word _ oo).mono ?_;rw[Aw.o];rintro e w2 ⟨rfl,hb2⟩;have hs1:=B1.o.size;have A3:=hid (A2.o.below hb2);have B3:=hid (B1.o.trans (hb2.mono hs1));have S3:=hid (S1.o.below hb2 oo);clear hb2 A2 B1 S1 a0 a1 a2 a3;obtain⟨a0,a1,a2,a3⟩:=A3.o.cs;have hs3:=B3.o.size;cases FX:(n.t.kind==14)
 .cases ak3:(n.t.kind != 11)
  .have e11:n.t.kind=11:=by simpa using ak3
   have E11:=hid e11;clear e11;cases agc:(nm.toList==[110,116,104,45,99,104,105,108,100])
   .have n3:¬nm=nG:=by rw[ay]at agc;simpa[nG]using agc
    cases hnot:(nm.toList==[110,111,116])
    .have n1:¬nm=nD:=by rw[ay]at hnot;simpa[nD]using hnot
     cases his:(nm.toList==[105,115])
     .have n2:¬nm=DY:=by rw[ay]at his;simpa[DY]using his
      have HV:Hid (bM (dX f) n=none):=Lj E11.o (by rw[Aw.o];exact n1) (by rw[Aw.o];exact n2) (by rw[Aw.o];exact n3);clear n1 n2 n3;go_wp2_with fail;go_ret2
      exact⟨by rw[HV.o];exact⟨_,rfl⟩,B3.o⟩
     .have n2:nm=DY:=by rw[ay]at his;simpa[DY]using his
      obtain⟨g,rfl⟩:∃g,f=g+1:=⟨f-1,by have:=HD.o E11.o;omega⟩;have HV:Hid (bM (dX (g+1)) n=(lM g n.kids).map (fun l=>.mk 58 DY aA aA l 0)):=by have:=CV (rec:=dX (g+1)) E11.o (.inr (by rw[Aw.o];exact n2));rw[Aw.o,n2]at this;exact this
      clear n1 n2 n3;go_wp2_with fail;refine(HR.o B n.kids _ w2 (by have:=HD.o E11.o;omega) S3.o oo).mono ?_;rintro e w4 ⟨hp,hb4⟩;have B4:=hid (B3.o.trans (hb4.mono hs3));clear hb4;unfold rdP at hp;cases hsel:lM g n.kids with
      |none=>
       rw[hsel]at hp;subst hp;have HN:Hid (bM (dX (g+1)) n=none):=by show _=_;rw[HV.o,hsel];rfl
       clear hsel;go_wp2_with fail;go_ret2
       exact⟨by rw[HN.o];exact⟨_,rfl⟩,B4.o⟩
      |some ss=>
       rw[hsel]at hp;obtain⟨sv,rfl,hsg⟩:=hp;obtain⟨sa,sc,rfl⟩:=hsg.form;have HN:Hid (bM (dX (g+1)) n=some (.mk 58 DY aA aA ss 0)):=by show _=_;rw[HV.o,hsel];rfl
       have HG:Hid (SG (AA (aQ g)) 1 (oD w.heap.size w4) w4 (.slice sa ss.length sc) ss):=hsg.keep (One.fair (fO.fair (aQ.fair g))) (xO hs3) fun _ _=>rfl;clear hsel hsg;go_wp2_with fail;go_ret2
       exact⟨by rw[HN.o];exact⟨_,rfl,_,by rw[acC];rfl,HG.o⟩,B4.o⟩
    .have n2:nm=nD:=by rw[ay]at hnot;simpa[nD]using hnot
     obtain⟨g,rfl⟩:∃g,f=g+1:=⟨f-1,by have:=HD.o E11.o;omega⟩;have HV:Hid (bM (dX (g+1)) n=(lM g n.kids).map (fun l=>.mk 58 nD aA aA l 0)):=by have:=CV (rec:=dX (g+1)) E11.o (.inl (by rw[Aw.o];exact n2));rw[Aw.o,n2]at this;exact this
     clear n2 n3;go_wp2_with fail;refine(HR.o B n.kids _ w2 (by have:=HD.o E11.o;omega) S3.o oo).mono ?_;rintro e w4 ⟨hp,hb4⟩;have B4:=hid (B3.o.trans (hb4.mono hs3));clear hb4;unfold rdP at hp;cases hsel:lM g n.kids with
     |none=>
      rw[hsel]at hp;subst hp;have HN:Hid (bM (dX (g+1)) n=none):=by show _=_;rw[HV.o,hsel];rfl
      clear hsel;go_wp2_with fail;go_ret2
      exact⟨by rw[HN.o];exact⟨_,rfl⟩,B4.o⟩
     |some ss=>
      rw[hsel]at hp;obtain⟨sv,rfl,hsg⟩:=hp;obtain⟨sa,sc,rfl⟩:=hsg.form;have HN:Hid (bM (dX (g+1)) n=some (.mk 58 nD aA aA ss 0)):=by show _=_;rw[HV.o,hsel];rfl
      have HG:Hid (SG (AA (aQ g)) 1 (oD w.heap.size w4) w4 (.slice sa ss.length sc) ss):=hsg.keep (One.fair (fO.fair (aQ.fair g))) (xO hs3) fun _ _=>rfl;clear hsel hsg;go_wp2_with fail;go_ret2
      exact⟨by rw[HN.o];exact⟨_,rfl,_,by rw[aai];rfl,HG.o⟩,B4.o⟩
   .have n3:nm=nG:=by rw[ay]at agc;simpa[nG]using agc
    have HV:Hid (bM (dX f) n=(zD n.kids).map (fun p=>.mk 58 nG aA aA [] p)):=QU E11.o (by rw[Aw.o];exact n3);clear n3;go_wp2_with fail;refine(QO B n.kids _ w2 S3.o oo).mono ?_;rintro e w4 ⟨hp,hb4⟩;have B4:=hid (B3.o.trans (hb4.mono hs3));clear hb4;rcases hp with⟨hn,pv,rfl⟩|⟨p,hn,rfl⟩
    .have HN:Hid (bM (dX f) n=none):=by show _=_;rw[HV.o,hn];rfl
     clear hn;go_wp2_with fail;go_ret2
     exact⟨by rw[HN.o];exact⟨_,rfl⟩,B4.o⟩
    .have HN:Hid (bM (dX f) n=some (.mk 58 nG aA aA [] p)):=by show _=_;rw[HV.o,hn];rfl
     clear hn;go_wp2_with fail;go_ret2
     exact⟨by rw[HN.o];exact⟨_,rfl,aQ.plain _ _ _ _ _ _ _ _⟩,B4.o⟩
  .have HV:Hid (bM (dX f) n=none):=Iz (by simpa using FX) (by simpa using ak3);go_wp2_with fail;go_ret2
   exact⟨by rw[HV.o];exact⟨_,rfl⟩,B3.o⟩
 .have HV:Hid (bM (dX f) n=if stB nm=true then some (Simple.of 58 nm) else none):=by
   have:=VO (rec:=dX f) (n:=n) (by simpa using FX);rw[Aw.o]at this;exact this
  go_wp2_with fail;refine(aad nm _).mono ?_;rintro e w4 ⟨rfl,rfl⟩;obtain⟨z,Hz⟩:=Nm (stB nm);rw[Hz.o]at HV⊢;cases z
  .go_wp2_with fail;go_ret2
   exact⟨by rw[HV.o];exact⟨_,rfl⟩,B3.o⟩
  .go_wp2_with fail;go_ret2
   refine⟨?_,B3.o⟩;rw[HV.o];refine⟨_,rfl,?_⟩;have:=aQ.plain f (oD w.heap.size w4) w4 58 nm aA aA 0;rw[QT Hz.o]at this;exact this
end
section
attribute [local go_sem] bI bJ aX aY
def iD(rec:List Nd->Option bY)(l:List Nd):Option (Simple×List Nd):=
 if (hdN l).t.kind=4 then some (Simple.of 35 (hdN l).t.word,l.tail)
 else if au (hdN l).t (b1 46)=true then(if (hdN l.tail).t.kind=14 then some (Simple.of 46 (hdN l.tail).t.word,l.tail.tail) else none)
 else if au (hdN l).t (b1 91)=true then(gG (bare (hdN l).kids)).map (fun s=>(s,l.tail))
 else(bM rec (hdN l.tail)).map (fun s=>(s,l.tail.tail))
def ptP(f:Nat)(o:Option (Simple×List Nd))(B b:Nat)(w w':WD)(e:Ending):Prop:=
 match o with
 |none=>∃pv sv l,e=.returned (.tuple #[pv,.bool false])/\fV B w' b sv l
 |some (s,r)=>∃pv sv,e=.returned (.tuple #[pv,.bool true])/\fV B w' b sv r/\aQ f (oD w.heap.size w') w' s [pv]
theorem acD(nm:BY)(lv:Av)(p:Nat):fE 35 nm aA aA lv p=.iface 332 (.agg #[.string nm]):=by unfold fE;rw[if_neg oo,if_pos rfl]
theorem QW(nm:BY)(lv:Av)(p:Nat):fE 46 nm aA aA lv p=.iface 333 (.agg #[.string nm]):=by unfold fE;rw[if_neg oo,if_neg oo,if_pos rfl]
def uo(f:Nat)(l:List Nd):Prop:=∀n∈l,(n.t.kind=11->depth n.kids+1<=f)/\n.t.word.size<=4000000
theorem uo.hd{f:Nat}{l:List Nd}(h:uo f l):((hdN l).t.kind=11->depth (hdN l).kids+1<=f)/\(hdN l).t.word.size<=4000000:=by
 cases l with
 |nil=>exact⟨fun e=>absurd e (by decide),by decide⟩
 |cons n r=>exact h n Aa
theorem uo.tail{f:Nat}{l:List Nd}(h:uo f l):uo f l.tail:=fun n hn=>h n (List.mem_of_mem_tail hn)
theorem ai4(f:Nat)(hR:Lh f)(B b:Nat)(sv:Av)(l:List Nd)(w:WD)(h:fV B w b sv l)(hd:uo f l):
  Calls prog 257 #[.pointer (some ⟨b,0,none⟩)] w fun e w'=>ptP f (iD (dX f) l) B b w w' e/\Turn b w w':=by
 have R1:=hid h;have HR:=hid hR;have HD:Hid (uo f l):=hd;have hbw:b<w.heap.size:=h.lt;have hBb:B<=b:=h.lo;clear h hR hd;obtain⟨n,Hn⟩:=Nm (hdN l);obtain⟨l1,Hl1⟩:=Nm l.tail;have HP:Hid (iD (dX f) l=if n.t.kind=4 then some (Simple.of 35 n.t.word,l1) else if au n.t (b1 46)=true then(if (hdN l1).t.kind=14 then some (Simple.of 46 (hdN l1).t.word,l1.tail) else none) else if au n.t (b1 91)=true then(gG (bare n.kids)).map (fun s=>(s,l1)) else(bM (dX f) (hdN l1)).map (fun s=>(s,l1.tail))):=by show _=_;unfold iD;rw[Hn.o,Hl1.o]
 go_in;go_wp2_with fail;refine(sN B b _ l _ R1.o).mono ?_;rw[Hn.o,Hl1.o];rintro e w2 ⟨kv2,Yv,rfl,hk2,hR2,hT2⟩;obtain⟨ka,kc,rfl⟩:=hk2.form;have T2:=hid hT2;have R2:=hid hR2;have K2:=hid hk2;clear hk2 hR2 hT2 R1;unfold fB;have A3:Hid (VB (w2.alloc (.cells #[.int .i64 n.t.kind,.string n.t.word,.string n.t.unit,.slice ka n.kids.length kc] 199)) w2.heap.size (.int .i64 n.t.kind) (.string n.t.word) (.string n.t.unit) (.slice ka n.kids.length kc)):=VB.new _ _ _ _ _;have R3:Hid (fV B (w2.alloc (.cells #[.int .i64 n.t.kind,.string n.t.word,.string n.t.unit,.slice ka n.kids.length kc] 199)) b Yv l1):=R2.o.alloc _;have T3:Hid (Turn b w (w2.alloc (.cells #[.int .i64 n.t.kind,.string n.t.word,.string n.t.unit,.slice ka n.kids.length kc] 199))):=T2.o.alloc _
 have hb2:b<w2.heap.size:=R2.o.lt;have K3:Hid (Sl (fun k=>k<B) (w2.alloc (.cells #[.int .i64 n.t.kind,.string n.t.word,.string n.t.unit,.slice ka n.kids.length kc] 199)) (.slice ka n.kids.length kc) n.kids):=K2.o.below ((Below.refl w2.heap.size w2).alloc nl _) oo;clear R2 T2 K2;go_upto_region 2 with fail
 generalize w2.alloc (.cells #[.int .i64 n.t.kind,.string n.t.word,.string n.t.unit,.slice ka n.kids.length kc] 199)=w3 at *;generalize w2.heap.size=gn at *;obtain⟨a0,a1,a2,a3⟩:=A3.o.cs;cases hk4:(n.t.kind==4)
 .have n4:¬n.t.kind=4:=by simpa using hk4
  have HP2:Hid (iD (dX f) l=if au n.t (b1 46)=true then(if (hdN l1).t.kind=14 then some (Simple.of 46 (hdN l1).t.word,l1.tail) else none) else if au n.t (b1 91)=true then(gG (bare n.kids)).map (fun s=>(s,l1)) else(bM (dX f) (hdN l1)).map (fun s=>(s,l1.tail))):=by show _=_;rw[HP.o,if_neg n4]
  clear n4 HP;go_wp2_with fail;refine pmb (jf n.t _ (b1 46) _) fun w4 hb4=>?_;have R4:=hid (R3.o.below hb4);have T4:=hid (T3.o.trans (Turn.of_below hb4));have A4:=hid (A3.o.below hb4);have K4:Hid (Sl (fun k=>k<B) w4 (.slice ka n.kids.length kc) n.kids):=K3.o.below hb4 (by have:=R3.o.lt;omega);clear hb4 R3 T3 A3 K3 a0 a1 a2 a3;obtain⟨a0,a1,a2,a3⟩:=A4.o.cs;obtain⟨s1,Az⟩:=Nm (au n.t (b1 46));rw[Az.o]at HP2⊢;cases s1
  .have HP3:Hid (iD (dX f) l=if au n.t (b1 91)=true then(gG (bare n.kids)).map (fun s=>(s,l1)) else(bM (dX f) (hdN l1)).map (fun s=>(s,l1.tail))):=by show _=_;rw[HP2.o];rfl
   clear HP2;go_wp2_with fail;refine pmb (jf n.t _ (b1 91) _) fun w5 hb5=>?_;have R5:=hid (R4.o.below hb5);have T5:=hid (T4.o.trans (Turn.of_below hb5));have A5:=hid (A4.o.below hb5);have K5:Hid (Sl (fun k=>k<B) w5 (.slice ka n.kids.length kc) n.kids):=K4.o.below hb5 (by have:=R4.o.lt;omega);clear hb5 R4 T4 A4 K4 a0 a1 a2 a3;obtain⟨a0,a1,a2,a3⟩:=A5.o.cs;have hb5:b<w5.heap.size:=R5.o.lt;have hw5:w.heap.size<=w5.heap.size:=T5.o.size;obtain⟨s2,Hs2⟩:=Nm (au n.t (b1 91));rw[Hs2.o]at HP3⊢;cases s2
   .have HP4:Hid (iD (dX f) l=(bM (dX f) (hdN l1)).map (fun s=>(s,l1.tail))):=by show _=_;rw[HP3.o];rfl
    clear HP3;obtain⟨m,Hm⟩:=Nm (hdN l1);have HDm:Hid ((m.t.kind=11->depth m.kids+1<=f)/\m.t.word.size<=4000000):=by have:=HD.o.tail;rw[Hl1.o]at this;have:=this.hd;rw[Hm.o]at this;exact this
    rw[Hm.o]at HP4;go_wp2_with fail;refine(sN B b _ l1 _ R5.o).mono ?_;rw[Hm.o];rintro e w6 ⟨kv6,sv6,rfl,hk6,QI,Qe⟩;have R6:=hid QI;have T6:=hid (T5.o.trans Qe);have K6:=hid hk6;have hw6:=T6.o.size;clear QI Qe hk6 R5 T5;go_wp2_with fail;refine(QV f HR.o B m kv6 w6 HDm.o.2 K6.o (by have:=R6.o.lt;omega) HDm.o.1).mono ?_;rintro e w7 ⟨hp,hb7⟩;have R7:=hid (R6.o.below hb7);have T7:=hid (T6.o.trans (Turn.of_below hb7));clear hb7;unfold stP at hp;cases hq:bM (dX f) m with
    |none=>
     rw[hq]at hp;obtain⟨pv,rfl⟩:=hp;have HN:Hid (iD (dX f) l=none):=by show _=_;rw[HP4.o,hq];rfl
     clear hq;go_wp2_with fail;go_ret2
     exact⟨by rw[HN.o];exact⟨_,_,_,rfl,R7.o⟩,T7.o⟩
    |some s=>
     rw[hq]at hp;obtain⟨pv,rfl,hps⟩:=hp;have HN:Hid (iD (dX f) l=some (s,l1.tail)):=by show _=_;rw[HP4.o,hq];rfl
     have HPS:Hid (aQ f (oD w.heap.size w7) w7 s [pv]):=aQ.fair f _ _ _ _ _ _ (xO hw6) (fun _ _=>rfl) hps;clear hq hps;go_wp2_with fail;go_ret2
     exact⟨by rw[HN.o];exact⟨_,_,rfl,R7.o,HPS.o⟩,T7.o⟩
   .have HP4:Hid (iD (dX f) l=(gG (bare n.kids)).map (fun s=>(s,l1))):=by show _=_;rw[HP3.o];rfl
    clear HP3;go_wp2_with fail;refine(VN B n.kids _ w5 K5.o oo).mono ?_;rintro e w7 ⟨hp,hb7⟩;have R7:=hid (R5.o.below hb7);have T7:=hid (T5.o.trans (Turn.of_below hb7));clear hb7;unfold akZ at hp;cases hq:gG (bare n.kids)with
    |none=>
     rw[hq]at hp;obtain⟨pv,rfl⟩:=hp;have HN:Hid (iD (dX f) l=none):=by show _=_;rw[HP4.o,hq];rfl
     clear hq;go_wp2_with fail;go_ret2
     exact⟨by rw[HN.o];exact⟨_,_,_,rfl,R7.o⟩,T7.o⟩
    |some s=>
     have hs0:∃nm h v,s=.mk 91 nm h v [] 0:=by
      rw[acB (Qg.YB _)]at hq;unfold wW at hq;split at hq
      .split at hq
       .cases hq;exact⟨_,_,_,rfl⟩
       .cases hq
      .split at hq
       .cases hq;exact⟨_,_,_,rfl⟩
       .cases hq
     obtain⟨nm,hw,v,rfl⟩:=hs0;rw[hq]at hp;have hp':e=.returned (.tuple #[fE 91 nm hw v (.slice none 0 0) 0,.bool true]):=hp;subst hp';have HN:Hid (iD (dX f) l=some (.mk 91 nm hw v [] 0,l1)):=by show _=_;rw[HP4.o,hq];rfl
     clear hq hp;go_wp2_with fail;go_ret2
     exact⟨by rw[HN.o];exact⟨_,_,rfl,R7.o,aQ.plain _ _ _ _ _ _ _ _⟩,T7.o⟩
  .have HP3:Hid (iD (dX f) l=if (hdN l1).t.kind=14 then some (Simple.of 46 (hdN l1).t.word,l1.tail) else none):=by show _=_;rw[HP2.o];rfl
   clear HP2;obtain⟨m,Hm⟩:=Nm (hdN l1);rw[Hm.o]at HP3;go_wp2_with fail;refine(sN B b _ l1 _ R4.o).mono ?_;rw[Hm.o];rintro e w6 ⟨kv6,sv6,rfl,hk6,QI,Qe⟩;obtain⟨ma,mc,rfl⟩:=hk6.form;have R6:=hid QI;have T6:=hid (T4.o.trans Qe);clear QI Qe hk6 R4 T4;unfold fB;have M7:Hid (VB (w6.alloc (.cells #[.int .i64 m.t.kind,.string m.t.word,.string m.t.unit,.slice ma m.kids.length mc] 199)) w6.heap.size (.int .i64 m.t.kind) (.string m.t.word) (.string m.t.unit) (.slice ma m.kids.length mc)):=VB.new _ _ _ _ _;have R7:Hid (fV B (w6.alloc (.cells #[.int .i64 m.t.kind,.string m.t.word,.string m.t.unit,.slice ma m.kids.length mc] 199)) b sv6 l1.tail):=R6.o.alloc _;have T7:Hid (Turn b w (w6.alloc (.cells #[.int .i64 m.t.kind,.string m.t.word,.string m.t.unit,.slice ma m.kids.length mc] 199))):=T6.o.alloc _
   clear R6 T6;go_upto_region 6 with fail
   generalize w6.alloc (.cells #[.int .i64 m.t.kind,.string m.t.word,.string m.t.unit,.slice ma m.kids.length mc] 199)=w7 at *;generalize w6.heap.size=gm at *;clear a0 a1 a2 a3;obtain⟨a0,a1,a2,a3⟩:=M7.o.cs;cases FX:(m.t.kind==14)
   .have HN:Hid (iD (dX f) l=none):=by show _=_;rw[HP3.o,if_neg (by simpa using FX)]
    go_quiet (fail)
    go_wp2_with fail;go_ret2
    exact⟨by rw[HN.o];exact⟨_,_,_,rfl,R7.o.below ⟨rfl,rfl,rfl,Nat.le_refl _,fun _ _=>rfl⟩⟩,T7.o.drewN _⟩
   .have HN:Hid (iD (dX f) l=some (Simple.of 46 m.t.word,l1.tail)):=by show _=_;rw[HP3.o,if_pos (by simpa using FX)]
    go_quiet (fail)
    go_wp2_with fail;go_ret2
    refine⟨?_,T7.o.drewN _⟩;rw[HN.o];refine⟨_,_,rfl,R7.o.below ⟨rfl,rfl,rfl,Nat.le_refl _,fun _ _=>rfl⟩,?_⟩;exact(QW m.t.word (.slice none 0 0) 0) ▸ aQ.plain f _ _ 46 m.t.word aA aA 0
 .have HN:Hid (iD (dX f) l=some (Simple.of 35 n.t.word,l1)):=by show _=_;rw[HP.o,if_pos (by simpa using hk4)]
  go_wp2_with fail;go_ret2
  refine⟨?_,T3.o⟩;rw[HN.o];refine⟨_,_,rfl,R3.o,?_⟩;exact(acD n.t.word (.slice none 0 0) 0) ▸ aQ.plain f _ _ 35 n.t.word aA aA 0
end
section
attribute [local go_sem] bI bJ aX aY
theorem aaj:∃i,prog.info? 222=some i/\i.zero=some .nilIface/\i.size=1/\i.bytes=16:=info_parts An
theorem IB:CB (hdN []).t=false:=by decide
theorem xP(rec:List Nd->Option bY)(acc:List Simple)(l:List Nd):bZ rec acc l=if CB (hdN l).t=true then(match iD rec l with|none=>none|some (s,r)=>bZ rec (acc++[s]) r) else some (acc,l):=by
 have hf:∀n r,hdN (n::r)=n:=fun _ _=>rfl;match l with
 |[]=>rw[IB];unfold bZ;rfl
 |[n]=>
  rw[hf];unfold CB iD;simp only[hf,List.tail_cons,List.tail_nil];by_cases h4:n.t.kind=4
  .unfold bZ;simp only[h4,decide_true,Bool.true_or,if_true]
  .cases h46:au n.t (b1 46)
   .cases KO:au n.t (b1 91)
    .cases h58:au n.t (b1 58)
     .unfold bZ;simp[dN,h4,h46,KO,h58]
     .unfold bZ;simp[dN,h4,h46,KO,h58,Iz,aik]
    .unfold bZ;simp only[dN,h4,h46,KO,decide_false,Bool.false_or,Bool.or_true,Bool.true_or,if_true,Bool.false_eq_true,if_false];cases gG (bare n.kids)with
     |none=>rfl
     |some s=>simp only[Option.map_some]
   .unfold bZ;simp[dN,h4,h46,aik]
 |n::m::r=>
  rw[hf];unfold CB iD;simp only[hf,List.tail_cons];conv=>lhs;unfold bZ
  by_cases h4:n.t.kind=4
  .simp only[h4,decide_true,Bool.true_or,if_true]
  .cases h46:au n.t (b1 46)
   .cases KO:au n.t (b1 91)
    .cases h58:au n.t (b1 58)
     .simp[dN,h4,h46,KO,h58]
     .simp only[dN,h4,h46,KO,h58,decide_false,Bool.false_or,if_true,Bool.false_eq_true,if_false];cases bM rec m<;>rfl
    .simp only[dN,h4,h46,KO,decide_false,Bool.false_or,Bool.true_or,if_true,Bool.false_eq_true,if_false];cases gG (bare n.kids)<;>rfl
   .simp only[dN,h4,h46,decide_false,Bool.false_or,Bool.true_or,if_true,if_false];by_cases h14:m.t.kind=14
    .rw[if_pos h14,if_pos h14]
    .rw[if_neg h14,if_neg h14]
theorem AO{rec:List Nd->Option bY}{l:List Nd}{s:Simple}{r:List Nd}(h:iD rec l=some (s,r))(hl:l≠[]):r.length<l.length/\(∀f,uo f l->uo f r):=by
 have h1:l.tail.length<l.length:=by
  cases l with
  |nil=>exact absurd rfl hl
  |cons n q=>simp
 have h2:l.tail.tail.length<l.length:=by
  have:l.tail.tail.length<=l.tail.length:=by simp
  omega
 unfold iD at h;split at h
 .cases h;exact⟨h1,fun f q=>q.tail⟩
 .split at h
  .split at h
   .cases h;exact⟨h2,fun f q=>q.tail.tail⟩
   .cases h
  .split at h
   .cases ha:gG (bare (hdN l).kids)with
    |none=>rw[ha]at h;cases h
    |some s'=>rw[ha]at h;cases h;exact⟨h1,fun f q=>q.tail⟩
   .cases ha:bM rec (hdN l.tail)with
    |none=>rw[ha]at h;cases h
    |some s'=>rw[ha]at h;cases h;exact⟨h2,fun f q=>q.tail.tail⟩
theorem IC(k:Nat)(nm h v:BY)(lv:Av)(p:Nat):∃T u,fE k nm h v lv p=.iface T u:=by
 unfold fE;repeat' split
 all_goals exact⟨_,_,rfl⟩
theorem aQ.form{f:Nat}{S:Nat->Prop}{w:WD}{s:Simple}{pv:Av}(h:aQ f S w s [pv]):∃T u,pv=.iface T u:=by
 obtain⟨k,nm,hh,v,l,p⟩:=s;cases f with
 |zero=>obtain⟨_,a,c,e⟩:=h;obtain⟨T,u,e2⟩:=IC k nm hh v (.slice a 0 c) p;exact⟨T,u,by rw[<-e2];exact(List.cons.inj e).1⟩
 |succ f=>obtain⟨lv,e,_⟩:=h;obtain⟨T,u,e2⟩:=IC k nm hh v lv p;exact⟨T,u,by rw[<-e2];exact(List.cons.inj e).1⟩
theorem MG.turn{α:Type}{C:wV α}{sz:Nat}(hF:Fair C){T:TypeId}{base:Nat}{w w':WD}{v:Av}{l:List α}(h:MG C sz T base w v l){b:Nat}(ht:Turn b w w')(hb:b<base):MG C sz T base w' v l:=h.keep hF ht.size fun g hg hg2=>ht.block g hg2 oo
structure CpI(f B b:Nat)(w:WD)(l:List Nd)(u:Av)(acc:List Simple)(cur:List Nd)(wr:WD):Prop where
 row:MG (aQ f) 1 222 w.heap.size wr u acc
 rdr:∃sv,fV B wr b sv cur
 turn:Turn b w wr
 eq:aZ (dX f) l=bZ (dX f) acc cur
 dep:uo f cur
 len:acc.length+cur.length<=l.length
def cpP(f:Nat)(o:Option (List Simple×List Nd))(B b:Nat)(w w':WD)(e:Ending):Prop:=
 match o with
 |none=>∃lv sv l,e=.returned (.tuple #[lv,.bool false])/\fV B w' b sv l
 |some (all,r)=>∃lv sv,e=.returned (.tuple #[lv,.bool (decide (0<all.length))])/\fV B w' b sv r/\SG (aQ f) 1 (oD w.heap.size w') w' lv all
end
section
attribute [local go_sem] bI bJ aX aY
def tH(l:List Nd):Prop:=∀(B:Nat) (v:Av) (w:WD),Sl (fun b=>b<B) w v l->B<=w.heap.size->dL l<=549755813888->Calls prog 102 #[v] w fun e w'=>e=.returned (.string (Sp.written l))/\Below w.heap.size w w'
theorem jP(l:List Nd):(Sp.written l).size<=dL l:=vH none l
section
variable (wd un:BY) (ka:Option Addr) (kids:List Nd) (kc B:Nat) (w:WD)
theorem ai5(hrec:tH kids)(hk:Sl (fun b=>b<B) w (.slice ka kids.length kc) kids)(hB:B<=w.heap.size)(hz:dL kids<=549755813888)(hw:wd.size<=4000000):Calls prog 166 #[.agg #[.int .i64 11,.string wd,.string un,.slice ka kids.length kc]] w fun e w'=>e=.returned (.string (dP wd++(b1 40++(Sp.written kids++b1 41))))/\Below w.heap.size w w':=by
 have B2:Hid (Below w.heap.size w (w.alloc (.cells #[.int .i64 11,.string wd,.string un,.slice ka kids.length kc] 199)).drew):=xJ _ _;have A2:Hid (VB (w.alloc (.cells #[.int .i64 11,.string wd,.string un,.slice ka kids.length kc] 199)).drew w.heap.size (.int .i64 11) (.string wd) (.string un) (.slice ka kids.length kc)):=VB.new _ _ _ _ _;have S2:Hid (Sl (fun b=>b<B) (w.alloc (.cells #[.int .i64 11,.string wd,.string un,.slice ka kids.length kc] 199)).drew (.slice ka kids.length kc) kids):=hk.below B2.o hB;have HR:=hid hrec;clear hk hrec;obtain⟨nm,Aw⟩:=Nm (dP wd);obtain⟨wr,Hwr⟩:=Nm (Sp.written kids);have HV:Hid (aG [nm,⟨#[40]⟩,wr,⟨#[41]⟩]=dP wd++(b1 40++(Sp.written kids++b1 41))):=by show _=_;rw[Aw.o,Hwr.o];simp[aG,b1]
 have hsz:nm.size<=4*wd.size:=by rw[<-Aw.o];exact fQ wd
 have hsw:wr.size<=dL kids:=by rw[<-Hwr.o];exact jP kids
 go_in;go_wp2_with fail;refine wp_region_any An ?_;change wpAny _ _ _ _ _ _ _ (World.drew _);generalize(w.alloc (.cells #[.int .i64 11,.string wd,.string un,.slice ka kids.length kc] 199)).drew=w2 at *;have hs2:=B2.o.size;refine wpAny_of_held (S:=fun wx=>VB wx w.heap.size (.int .i64 11) (.string wd) (.string un) (.slice ka kids.length kc)) _ _ _ _ ?_;refine dH 0 rfl A2.o (by intro w hSw;obtain⟨a0,a1,a2,a3⟩:=hSw.cs;exact gs) ?_;refine dH 1 rfl A2.o (by intro w hSw;obtain⟨a0,a1,a2,a3⟩:=hSw.cs;exact gs) ?_;refine dH 2 rfl A2.o (by intro w hSw;obtain⟨a0,a1,a2,a3⟩:=hSw.cs;exact gs) ?_;refine dH 4 rfl A2.o (by intro w hSw;obtain⟨a0,a1,a2,a3⟩:=hSw.cs;exact gs) ?_
 refine dH 5 rfl A2.o (by intro w hSw;obtain⟨a0,a1,a2,a3⟩:=hSw.cs;exact gs) ?_;refine iW 3 fun K hK=>?_;go_simp;refine(oW wd _ hw).mono ?_;rw[Aw.o];rintro e w3 ⟨rfl,hb3⟩;have B3:=hid (B2.o.trans (hb3.mono hs2));have A3:=hid (A2.o.below hb3);have S3:=hid (S2.o.below hb3 oo);have hs3:=B3.o.size;clear hb3 S2;refine hK.o _ _ A3.o (fun _=>?_);clear hK K;refine iW 6 fun K hK=>?_;go_simp;refine(HR.o B _ w3 S3.o oo hz).mono ?_;rw[Hwr.o];rintro e w4 ⟨rfl,hb4⟩;have B4:=hid (B3.o.trans (hb4.mono hs3));have A4:=hid (A3.o.below hb4);have hs4:=B4.o.size;clear hb4
 refine hK.o _ _ A4.o (fun _=>?_);clear hK K;refine iW 7 fun K hK=>?_;go_simp;refine hK.o _ _ (A4.o.alloc _) (fun _=>?_);clear hK K;refine iW 8 fun K hK=>?_;go_simp;refine pmb (dQ [nm,⟨#[40]⟩,wr,⟨#[41]⟩] w4.heap.size _ _ (row4 w4 nm ⟨#[40]⟩ wr ⟨#[41]⟩) Aa (by show nm.size+(1+(wr.size+(1+0)))<=_;omega)) fun w5 hb5=>?_;have B5:Hid (Below w.heap.size w w5):=(B4.o.alloc hs4 _).trans (hb5.mono Al);have A5:Hid (VB w5 w.heap.size (.int .i64 11) (.string wd) (.string un) (.slice ka kids.length kc)):=(A4.o.alloc _).below hb5;clear hb5;refine hK.o _ _ A5.o (fun _=>?_);clear hK K;refine iW 9 fun K hK=>?_;go_simp;refine hK.o _ _ (A5.o) (fun _=>?_);clear hK K;refine wpAnyH_done An ?_ _;go_wp2_with fail;go_ret;exact⟨mg HV.o,B5.o⟩
theorem ai6(hrec:tH kids)(hk:Sl (fun b=>b<B) w (.slice ka kids.length kc) kids)(hB:B<=w.heap.size)(hz:dL kids<=549755813888)(hw:wd.size<=4000000):Calls prog 166 #[.agg #[.int .i64 15,.string wd,.string un,.slice ka kids.length kc]] w fun e w'=>e=.returned (.string (wd++(Sp.written kids++closing ⟨15,wd,un⟩)))/\Below w.heap.size w w':=by
 have B2:Hid (Below w.heap.size w (w.alloc (.cells #[.int .i64 15,.string wd,.string un,.slice ka kids.length kc] 199)).drew):=xJ _ _;have A2:Hid (VB (w.alloc (.cells #[.int .i64 15,.string wd,.string un,.slice ka kids.length kc] 199)).drew w.heap.size (.int .i64 15) (.string wd) (.string un) (.slice ka kids.length kc)):=VB.new _ _ _ _ _;have S2:Hid (Sl (fun b=>b<B) (w.alloc (.cells #[.int .i64 15,.string wd,.string un,.slice ka kids.length kc] 199)).drew (.slice ka kids.length kc) kids):=hk.below B2.o hB;have HR:=hid hrec;clear hk hrec;obtain⟨cl,Hcl⟩:=Nm (closing ⟨15,wd,un⟩);obtain⟨wr,Hwr⟩:=Nm (Sp.written kids);have HV:Hid (aG [wd,wr,cl]=wd++(Sp.written kids++closing ⟨15,wd,un⟩)):=by show _=_;rw[Hcl.o,Hwr.o];simp[aG]
 have hsz:cl.size<=1:=by rw[<-Hcl.o];exact Ce _
 have hsw:wr.size<=dL kids:=by rw[<-Hwr.o];exact jP kids
 go_in;go_wp2_with fail;refine wp_region_any An ?_;change wpAny _ _ _ _ _ _ _ (World.drew _);generalize(w.alloc (.cells #[.int .i64 15,.string wd,.string un,.slice ka kids.length kc] 199)).drew=w2 at *;have hs2:=B2.o.size;refine wpAny_of_held (S:=fun wx=>VB wx w.heap.size (.int .i64 15) (.string wd) (.string un) (.slice ka kids.length kc)) _ _ _ _ ?_;refine dH 0 rfl A2.o (by intro w hSw;obtain⟨a0,a1,a2,a3⟩:=hSw.cs;exact gs) ?_;refine dH 1 rfl A2.o (by intro w hSw;obtain⟨a0,a1,a2,a3⟩:=hSw.cs;exact gs) ?_;refine dH 2 rfl A2.o (by intro w hSw;obtain⟨a0,a1,a2,a3⟩:=hSw.cs;exact gs) ?_;refine dH 3 rfl A2.o (by intro w hSw;obtain⟨a0,a1,a2,a3⟩:=hSw.cs;exact gs) ?_
 refine dH 4 rfl A2.o (by intro w hSw;obtain⟨a0,a1,a2,a3⟩:=hSw.cs;exact gs) ?_;refine dH 6 rfl A2.o (by intro w hSw;obtain⟨a0,a1,a2,a3⟩:=hSw.cs;exact gs) ?_;refine dH 7 rfl A2.o (by intro w hSw;obtain⟨a0,a1,a2,a3⟩:=hSw.cs;exact gs) ?_;refine iW 5 fun K hK=>?_;go_simp;refine(HR.o B _ w2 S2.o oo hz).mono ?_;rw[Hwr.o];rintro e w3 ⟨rfl,hb3⟩;have B3:=hid (B2.o.trans (hb3.mono hs2));have A3:=hid (A2.o.below hb3);have hs3:=B3.o.size;clear hb3 S2;refine hK.o _ _ A3.o (fun _=>?_);clear hK K;refine iW 8 fun K hK=>?_;go_simp;refine(G9 ⟨15,wd,un⟩ _).mono ?_;rw[Hcl.o];rintro e w4 ⟨rfl,hb4⟩;have B4:=hid (B3.o.trans (hb4.mono hs3))
 have A4:=hid (A3.o.below hb4);have hs4:=B4.o.size;clear hb4;refine hK.o _ _ A4.o (fun _=>?_);clear hK K;refine iW 9 fun K hK=>?_;go_simp;refine hK.o _ _ (A4.o.alloc _) (fun _=>?_);clear hK K;refine iW 10 fun K hK=>?_;go_simp;refine pmb (dQ [wd,wr,cl] w4.heap.size _ _ (row3 w4 wd wr cl) Aa (by show wd.size+(wr.size+(cl.size+0))<=_;omega)) fun w5 hb5=>?_;have B5:Hid (Below w.heap.size w w5):=(B4.o.alloc hs4 _).trans (hb5.mono Al);have A5:Hid (VB w5 w.heap.size (.int .i64 15) (.string wd) (.string un) (.slice ka kids.length kc)):=(A4.o.alloc _).below hb5;clear hb5;refine hK.o _ _ A5.o (fun _=>?_);clear hK K;refine iW 11 fun K hK=>?_;go_simp;refine hK.o _ _ (A5.o) (fun _=>?_);clear hK K;refine wpAnyH_done An ?_ _;go_wp2_with fail;go_ret
 exact⟨mg HV.o,B5.o⟩
end
theorem vM(n:Nd)(hrec:tH n.kids)(B:Nat)(kv:Av)(w:WD)(hk:Sl (fun b=>b<B) w kv n.kids)(hB:B<=w.heap.size)(ht:dI n.t)(hz:dL n.kids<=549755813888):
  Calls prog 166 #[fB n.t kv] w fun e w'=>e=.returned (.string (iM n))/\Below w.heap.size w w':=by
 obtain⟨⟨kd,wd,un⟩,kids⟩:=n;obtain⟨ka,kc,rfl⟩:=hk.form;have hw:wd.size<=4000000:=ht.word;have hu:un.size<=4000000:=by have:un.size<=1000:=ht.unit;omega
 show Calls prog _ #[.agg #[.int .i64 kd,.string wd,.string un,.slice ka kids.length kc]] w fun e w'=>e=.returned (.string (Qy ⟨kd,wd,un⟩ (Sp.written kids)))/\Below w.heap.size w w';have ne:∀k:Int,¬kd=k->(kd==k)=false:=fun k h=>by simpa using h
 unfold Qy;by_cases k1:kd=1
 .subst k1;rw[if_pos rfl];exact akO wd un ka kids.length kc w
 rw[if_neg k1];by_cases k2:kd=2
 .subst k2;rw[if_pos rfl];exact akT wd un ka kids.length kc w hw
 rw[if_neg k2];by_cases k3:kd=3
 .subst k3;rw[if_pos rfl];exact akP wd un ka kids.length kc w
 rw[if_neg k3];by_cases k4:kd=4
 .subst k4;rw[if_pos rfl];exact akU wd un ka kids.length kc w hw
 rw[if_neg k4];by_cases k6:kd=6
 .subst k6;rw[if_pos rfl];exact akV wd un ka kids.length kc w hw
 rw[if_neg k6];by_cases k7:kd=7
 .subst k7;rw[if_pos rfl];exact akW wd un ka kids.length kc w hw hu
 rw[if_neg k7];by_cases k8:kd=8
 .subst k8;rw[if_pos rfl];exact akQ wd un ka kids.length kc w
 rw[if_neg k8];by_cases k9:kd=9
 .subst k9;rw[if_pos rfl];exact akR wd un ka kids.length kc w
 rw[if_neg k9];by_cases k10:kd=10
 .subst k10;rw[if_pos rfl];exact aiZ wd un ka kids.length kc w hw
 rw[if_neg k10];by_cases k11:kd=11
 .subst k11;rw[if_pos rfl];exact ai5 wd un ka kids kc B w hrec hk hB hz hw
 rw[if_neg k11];by_cases k12:kd=12
 .subst k12;rw[if_pos rfl];exact aiX wd un ka kids.length kc w hw
 rw[if_neg k12];by_cases k13:kd=13
 .subst k13;rw[if_pos rfl];exact aiW wd un ka kids.length kc w
 rw[if_neg k13];by_cases k14:kd=14
 .subst k14;rw[if_pos rfl];exact aiY wd un ka kids.length kc w hw
 rw[if_neg k14];by_cases k15:kd=15
 .subst k15;rw[if_pos rfl];exact ai6 wd un ka kids kc B w hrec hk hB hz hw
 rw[if_neg k15];exact akS wd un ka kids.length kc w kd (ne _ k1) (ne _ k2) (ne _ k3) (ne _ k4) (ne _ k6) (ne _ k7) (ne _ k8) (ne _ k9) (ne _ k10) (ne _ k11) (ne _ k12) (ne _ k13) (ne _ k14) (ne _ k15)
end
section
attribute [local go_sem] bI bJ aX aY
def rD(l:List Nd)(i:Nat):Option Tok:=if i=0 then none else(l[i-1]?).map Nd.t
structure VwI(w:WD)(l:List Nd)(u:Av)(ps:List BY)(i:Nat)(wr:WD):Prop where
 row:wr.ownsRow w.heap.size 9 1 u ps.length (ps.map Value.string)
 below:Below w.heap.size w wr
 eq:Sp.written l=aG ps++l9 (rD l i) (l.drop i)
 ln:ps.length<=2*i
theorem acE{l:List Nd}{i:Nat}(h:i<l.length):l9 (rD l i) (l.drop i)=(if Ak (rD l i) l[i].t=true then aA else Aj (rD l i) l[i].t++iM l[i])++l9 (rD l (i+1)) (l.drop (i+1)):=by
 rw[List.drop_eq_getElem_cons h];have e:rD l (i+1)=some l[i].t:=by unfold rD;rw[if_neg oo];simp[h]
 rw[e];conv=>lhs;unfold l9
theorem acF{l:List Nd}{i:Nat}(h:i<l.length)(h0:0<i):rD l i=some (l[i-1]'oo).t:=by unfold rD;rw[if_neg oo,List.getElem?_eq_getElem oo];rfl
theorem nJ(a:BY):aA++a=a:=by
 apply ByteArray.ext
 rw[ByteArray.data_append];simp[aA]
theorem nK:∀(l:List Nd) (n:Nd),n∈l->Cc n<=dL l
 |m::r,n,h=>by
  unfold dL;rcases List.mem_cons.1 h with e|e
  .subst e;omega
  .have:=nK r n e;omega
theorem acG(n:Nd):dL n.kids<=Cc n:=by obtain⟨t,k⟩:=n;unfold Cc;show dL k<=_;omega
theorem MQ(l:List Nd)(hrec:∀n∈l,tH n.kids):tH l:=by
 intro B v w h hB hz;have FU:=h.len;have HS:=hid h;have HR:=hid hrec;obtain⟨a,cap,rfl⟩:=h.form;clear h hrec;obtain⟨iS,wK⟩:=info_str;have HI:=hid wK;clear wK;have HZ:Hid ((Sp.written l).size<=549755813888):=Nat.le_trans (jP l) hz;go_in;go_wp2_with fail;go_loopg[3,8] l.length (fun gg v3 v8 wr=>∃(u:Av) (ps:List BY) (i:Nat),u=v3/\v8=.int .i64 (i:Int)/\i+gg=l.length/\ps.length<=2*i/\Aside (VwI w l u ps i wr));case atStart=>exact⟨_,[],0,rfl,rfl,oo,by simp,World.ownsRow_nil _ _ _ _,As,by rw[show aG []=aA from rfl,nJ];rfl,by simp⟩
 case round=>
  obtain⟨u,ps,i,rfl,rfl,hi,hpl,hA⟩:=hrel;have HC:Hid (VwI w l u ps i wr):=hA.o;clear hA;have hsr:=HC.o.below.size;have hpt:total ps<=549755813888:=by rw[<-oQ];have:=HZ.o;rw[HC.o.eq,ByteArray.size_append]at this;omega
  by_cases hlt:i<l.length
  .have h1:(i:Int)<(l.length:Int):=oo;have S1:=HS.o.below HC.o.below hB;have SB:=hid S1;obtain⟨g,o,rfl,hL,hcap⟩:=S1.here (by rintro rfl;simp at hlt);obtain⟨kv,hN⟩:=hL.node (i:=i) hlt;have HLL:=hid hL;obtain⟨n,hn⟩:∃n,n=l[i]:=⟨_,rfl⟩;have HM:Hid (n∈l):=by rw[hn];exact List.getElem_mem _
   have HW:=acE hlt;rw[<-hn]at hN HW;have Qh:=hid HW;have FY:=hid hN.ok;have HKV:=hid hN.k;have HWZ:Hid (dL n.kids<=549755813888):=Nat.le_trans (acG n) (Nat.le_trans (nK l n HM.o) hz);obtain⟨ka,kc,rfl⟩:=hN.k.form;have d0:=hN.c0;have d1:=hN.c1;have d2:=hN.c2;have d3:=hN.c3;have hgB:g<B:=hN.s;clear hN hL S1 HW hn;have A2:Hid (VB (wr.alloc (.cells #[.int .i64 n.t.kind,.string n.t.word,.string n.t.unit,.slice ka n.kids.length kc] 199)) wr.heap.size (.int .i64 n.t.kind) (.string n.t.word) (.string n.t.unit) (.slice ka n.kids.length kc)):=VB.new _ _ _ _ _
   have B2:Hid (Below wr.heap.size wr (wr.alloc (.cells #[.int .i64 n.t.kind,.string n.t.word,.string n.t.unit,.slice ka n.kids.length kc] 199))):=As.alloc nl _;go_upto_region 5 with fail
   generalize wr.alloc (.cells #[.int .i64 n.t.kind,.string n.t.word,.string n.t.unit,.slice ka n.kids.length kc] 199)=w2 at *;obtain⟨gt,mV⟩:=Nm wr.heap.size;have A3:Hid (VB w2 gt (.int .i64 n.t.kind) (.string n.t.word) (.string n.t.unit) (.slice ka n.kids.length kc)):=by rw[<-mV.o];exact A2
   rw[mV.o];clear A2 d0 d1 d2 d3;obtain⟨a0,a1,a2,a3⟩:=A3.o.cs;have BL2:=hid (HC.o.below.trans (B2.o.mono hsr));have O2:Hid (w2.ownsRow w.heap.size 9 1 u ps.length (ps.map Value.string)):=aP HC.o.row fun r hr=>B2.o.block r (HC.o.row.lt r hr).2;have K2:=hid (HKV.o.below B2.o oo);have hs2:=BL2.o.size;by_cases h0:i=0
   .subst h0;have HPV:Hid (rD l 0=none):=rfl;go_wp2_with fail;refine pmb (vM n (HR.o n HM.o) B _ w2 K2.o oo FY.o HWZ.o) fun w7 hb7=>?_;have B7:=hid (BL2.o.trans (hb7.mono oo));have O7:Hid (w7.ownsRow w.heap.size 9 1 u (ps).length ((ps).map Value.string)):=aP O2.o fun r hr=>hb7.block r (O2.o.lt r hr).2;have hs7:=B7.o.size;clear hb7;go_wp2_with(at_builtin;go_must(refine wpList_append_own _ rfl _ _ 26 rfl w.heap.size 9 iS (.string ⟨#[]⟩) 1 16 Tryz.underlying26 HI.o.1 HI.o.2.1 HI.o.2.2.1 HI.o.2.2.2 rfl oo u (ps).length ((ps).map Value.string) rfl (O7.o.alloc _) ⟨w7.heap.size,0,none⟩ 1 1 [.string (iM n)] rfl rfl (cell_one_new _ _ _) (aT _) (by unfold maxLen;simp;omega) oo Al ?_));intro v8 w8 eP lD _
    have VP:Hid (VwI w l v8 ((ps)++[iM n]) (0+1) w8):=⟨by first|(rw[List.length_append,List.map_append];exact eP)|simpa using eP,(B7.o.alloc hs7 _).grown lD Al (fun rr hr=>(O7.o.lt rr hr).1),by rw[dw,HC.o.eq,Qh.o,HPV.o];show _++((if false=true then aA else aA++iM n)++_)=_;rw[if_neg (by simp),nJ,ByteArray.append_assoc],by simp;omega⟩;clear eP lD;go_wp2_with fail;go_roundg(gk-1);case measure=>omega
    case rel=>exact⟨v8,(ps)++[iM n],0+1,rfl,by congr 1,oo,by simp;omega,VP.o⟩
   .have h0':0<i:=oo;have h0i:(0:Int)<(i:Int):=oo;obtain⟨m,hm⟩:∃m,m=l[i-1]'oo:=⟨_,rfl⟩;obtain⟨mv,hNm⟩:=HLL.o.node (i:=i-1) oo;rw[<-hm]at hNm;have HPV:Hid (rD l i=some m.t):=by show _=_;rw[acF hlt h0',hm]
    obtain⟨ma,mc,rfl⟩:=hNm.k.form;have HMC:Hid (∀wx,Below wr.heap.size wr wx->wx.cell? ⟨g,o+(i-1)*4,none⟩=some (.int .i64 m.t.kind)/\wx.cell? ⟨g,o+(i-1)*4+1,none⟩=some (.string m.t.word)/\wx.cell? ⟨g,o+(i-1)*4+2,none⟩=some (.string m.t.unit)/\wx.cell? ⟨g,o+(i-1)*4+3,none⟩=some (.slice ma m.kids.length mc)):=by
     intro wx hb;have hg:g<wr.heap.size:=oo;refine⟨?_,?_,?_,?_⟩
     .rw[hb.cell (p:=⟨g,_,none⟩) hg];exact hNm.c0
     .rw[hb.cell (p:=⟨g,_,none⟩) hg];exact hNm.c1
     .rw[hb.cell (p:=⟨g,_,none⟩) hg];exact hNm.c2
     .rw[hb.cell (p:=⟨g,_,none⟩) hg];exact hNm.c3
    clear hNm hm;have X2:Hid (Below wr.heap.size wr w2):=by rw[mV.o];rw[mV.o]at B2;exact B2.o
    have A2:Hid (VB w2 gt (.int .i64 n.t.kind) (.string n.t.word) (.string n.t.unit) (.slice ka n.kids.length kc)):=A3.o;clear A3 O2 K2 BL2 B2;have hwi:IntKind.i64.wrap ((i:Int)-1)=((i-1:Nat):Int):=by rw[IntKind.wrap_i64];omega
    have hi1:((i-1:Nat):Int)<(l.length:Int):=oo;obtain⟨b0,b1',b2',b3⟩:=HMC.o w2 X2.o;obtain⟨x1,Hx1⟩:=Nm (decide (n.t.kind=1));obtain⟨x2,Hx2⟩:=Nm (decide (m.t.kind=1));obtain⟨x3,Hx3⟩:=Nm (Cj m.t);obtain⟨x4,Hx4⟩:=Nm (zQ n.t);clear h0;go_wp2_with fail;refine(Ci n.t ka n.kids.length kc _).mono ?_;rw[Hx1.o];rintro e w3 ⟨rfl,hb3⟩;have X3:=hid (Ay X2.o hb3);have A3:=hid (A2.o.below hb3);clear hb3 a0 a1 a2 a3 b0 b1' b2' b3;obtain⟨a0,a1,a2,a3⟩:=A3.o.cs;obtain⟨b0,b1',b2',b3⟩:=HMC.o w3 X3.o;cases x1
    .have HTW:Hid (Ak (some m.t) n.t=false):=by show _=_;show(decide (m.t.kind=1)&&decide (n.t.kind=1))=false;rw[Hx1.o];exact Bool.and_false _
     go_wp2_with fail;refine(Fq m.t ma m.kids.length mc _).mono ?_;rw[Hx3.o];rintro e w13 ⟨rfl,aak⟩;have X13:=hid (Ay X3.o aak);have A13:=hid (A3.o.below aak);clear aak a0 a1 a2 a3 b0 b1' b2' b3;obtain⟨a0,a1,a2,a3⟩:=A13.o.cs;obtain⟨b0,b1',b2',b3⟩:=HMC.o w13 X13.o;cases x3
     .have HGP:Hid (Aj (some m.t) n.t=if (!x4)=true then og else aA):=by show(if parts m.t n.t=true then og else aA)=_;rw[parts_eq,Hx3.o,Hx4.o];rfl
      go_wp2_with fail;refine(zU n.t ka n.kids.length kc _).mono ?_;rw[Hx4.o];rintro e Ll ⟨rfl,VQ⟩;have YC:=hid (Ay X13.o VQ);have A14:=hid (A13.o.below VQ);clear VQ a0 a1 a2 a3 b0 b1' b2' b3;obtain⟨a0,a1,a2,a3⟩:=A14.o.cs;obtain⟨b0,b1',b2',b3⟩:=HMC.o Ll YC.o;cases x4
      .have HG2:Hid (Aj (some m.t) n.t=og):=HGP.o;have MR:=hid (HC.o.below.trans (YC.o.mono hsr));have Ok:Hid (Ll.ownsRow w.heap.size 9 1 u ps.length (ps.map Value.string)):=aP HC.o.row fun r hr=>YC.o.block r (HC.o.row.lt r hr).2;have Kk:=hid (HKV.o.below YC.o oo);have hsk:=MR.o.size;have HO:Hid ((Ll.alloc (.cells #[.string ⟨#[47,42,42,47]⟩] 9)).ownsRow w.heap.size 9 1 u ps.length (ps.map Value.string)):=Ok.o.alloc _
       go_wp2_with(at_builtin;go_must(refine wpList_append_own _ rfl _ _ 26 rfl w.heap.size 9 iS (.string ⟨#[]⟩) 1 16 Tryz.underlying26 HI.o.1 HI.o.2.1 HI.o.2.2.1 HI.o.2.2.2 rfl oo u ps.length (ps.map Value.string) rfl HO.o ⟨Ll.heap.size,0,none⟩ 1 1 [.string ⟨#[47,42,42,47]⟩] rfl rfl (cell_one_new _ _ _) (aT _) Ao oo Al ?_));intro v6 w6 hown6 lS _;have BL6:Hid (Below w.heap.size w w6):=(MR.o.alloc hsk _).grown lS Al (fun rr hr=>(Ok.o.lt rr hr).1);have X6:Hid (Below B Ll w6):=(As.alloc oo _).grown lS Al (fun rr hr=>by have:=(Ok.o.lt rr hr).1;omega);have A6:Hid (VB w6 gt (.int .i64 n.t.kind) (.string n.t.word) (.string n.t.unit) (.slice ka n.kids.length kc)):=by
        have hne:u.ownBlock≠some gt:=fun e=>by have:=(HC.o.row.lt gt e).2;have:=mV.o;omega
        have ai7:=A14.o.lt;show w6.heap[gt]?=_;rw[lS.block gt (by simp;omega) (fun e=>hne e.symm),Below.heap_alloc _ _ _ ai7];exact A14.o
       have O6:Hid (w6.ownsRow w.heap.size 9 1 v6 (ps++[og]).length ((ps++[og]).map Value.string)):=by show World.ownsRow _ _ _ _ _ _ _;rw[List.length_append,List.map_append];exact hown6
       have hp6:(ps++[og]).length<=2*i+1:=by simp;omega
       have K6:=hid (Kk.o.below X6.o nl);have hs6:=BL6.o.size;clear hown6 lS a0 a1 a2 a3 b0 b1' b2' b3 HO;obtain⟨a0,a1,a2,a3⟩:=A6.o.cs;go_wp2_with fail;refine pmb (vM n (HR.o n HM.o) B _ w6 K6.o oo FY.o HWZ.o) fun w7 hb7=>?_;have B7:=hid (BL6.o.trans (hb7.mono oo));have O7:Hid (w7.ownsRow w.heap.size 9 1 v6 (ps++[og]).length ((ps++[og]).map Value.string)):=aP O6.o fun r hr=>hb7.block r (O6.o.lt r hr).2;have hs7:=B7.o.size;clear hb7
       go_wp2_with(at_builtin;go_must(refine wpList_append_own _ rfl _ _ 26 rfl w.heap.size 9 iS (.string ⟨#[]⟩) 1 16 Tryz.underlying26 HI.o.1 HI.o.2.1 HI.o.2.2.1 HI.o.2.2.2 rfl oo v6 (ps++[og]).length ((ps++[og]).map Value.string) rfl (O7.o.alloc _) ⟨w7.heap.size,0,none⟩ 1 1 [.string (iM n)] rfl rfl (cell_one_new _ _ _) (aT _) (by unfold maxLen;simp;omega) oo Al ?_));intro v8 w8 eP lD _;have VP:Hid (VwI w l v8 ((ps++[og])++[iM n]) (i+1) w8):=⟨by first|(rw[List.length_append,List.map_append];exact eP)|simpa using eP,(B7.o.alloc hs7 _).grown lD Al (fun rr hr=>(O7.o.lt rr hr).1),by rw[dw,dw,HC.o.eq,Qh.o,HPV.o,if_neg (by rw[HTW.o];simp),HG2.o,ByteArray.append_assoc,ByteArray.append_assoc,ByteArray.append_assoc],by simp;omega⟩;clear eP lD;go_wp2_with fail;go_roundg(gk-1)
       case measure=>omega
       case rel=>exact⟨v8,(ps++[og])++[iM n],i+1,rfl,by congr 1,oo,by simp;omega,VP.o⟩
      .have HG2:Hid (Aj (some m.t) n.t=aA):=HGP.o;have MR:=hid (HC.o.below.trans (YC.o.mono hsr));have Ok:Hid (Ll.ownsRow w.heap.size 9 1 u ps.length (ps.map Value.string)):=aP HC.o.row fun r hr=>YC.o.block r (HC.o.row.lt r hr).2;have Kk:=hid (HKV.o.below YC.o oo);have hsk:=MR.o.size;go_wp2_with fail;refine pmb (vM n (HR.o n HM.o) B _ Ll Kk.o oo FY.o HWZ.o) fun w7 hb7=>?_;have B7:=hid (MR.o.trans (hb7.mono oo));have O7:Hid (w7.ownsRow w.heap.size 9 1 u (ps).length ((ps).map Value.string)):=aP Ok.o fun r hr=>hb7.block r (Ok.o.lt r hr).2;have hs7:=B7.o.size;clear hb7
       go_wp2_with(at_builtin;go_must(refine wpList_append_own _ rfl _ _ 26 rfl w.heap.size 9 iS (.string ⟨#[]⟩) 1 16 Tryz.underlying26 HI.o.1 HI.o.2.1 HI.o.2.2.1 HI.o.2.2.2 rfl oo u (ps).length ((ps).map Value.string) rfl (O7.o.alloc _) ⟨w7.heap.size,0,none⟩ 1 1 [.string (iM n)] rfl rfl (cell_one_new _ _ _) (aT _) (by unfold maxLen;simp;omega) oo Al ?_));intro v8 w8 eP lD _;have VP:Hid (VwI w l v8 ((ps)++[iM n]) (i+1) w8):=⟨by first|(rw[List.length_append,List.map_append];exact eP)|simpa using eP,(B7.o.alloc hs7 _).grown lD Al (fun rr hr=>(O7.o.lt rr hr).1),by rw[dw,HC.o.eq,Qh.o,HPV.o,if_neg (by rw[HTW.o];simp),HG2.o,nJ,ByteArray.append_assoc],by simp;omega⟩;clear eP lD;go_wp2_with fail;go_roundg(gk-1);case measure=>omega
       case rel=>exact⟨v8,(ps)++[iM n],i+1,rfl,by congr 1,oo,by simp;omega,VP.o⟩
     .have HG2:Hid (Aj (some m.t) n.t=aA):=by show(if parts m.t n.t=true then og else aA)=_;rw[parts_eq,Hx3.o];rfl
      have MR:=hid (HC.o.below.trans (X13.o.mono hsr));have Ok:Hid (w13.ownsRow w.heap.size 9 1 u ps.length (ps.map Value.string)):=aP HC.o.row fun r hr=>X13.o.block r (HC.o.row.lt r hr).2;have Kk:=hid (HKV.o.below X13.o oo);have hsk:=MR.o.size;go_wp2_with fail;refine pmb (vM n (HR.o n HM.o) B _ w13 Kk.o oo FY.o HWZ.o) fun w7 hb7=>?_;have B7:=hid (MR.o.trans (hb7.mono oo));have O7:Hid (w7.ownsRow w.heap.size 9 1 u (ps).length ((ps).map Value.string)):=aP Ok.o fun r hr=>hb7.block r (Ok.o.lt r hr).2;have hs7:=B7.o.size;clear hb7
      go_wp2_with(at_builtin;go_must(refine wpList_append_own _ rfl _ _ 26 rfl w.heap.size 9 iS (.string ⟨#[]⟩) 1 16 Tryz.underlying26 HI.o.1 HI.o.2.1 HI.o.2.2.1 HI.o.2.2.2 rfl oo u (ps).length ((ps).map Value.string) rfl (O7.o.alloc _) ⟨w7.heap.size,0,none⟩ 1 1 [.string (iM n)] rfl rfl (cell_one_new _ _ _) (aT _) (by unfold maxLen;simp;omega) oo Al ?_));intro v8 w8 eP lD _;have VP:Hid (VwI w l v8 ((ps)++[iM n]) (i+1) w8):=⟨by first|(rw[List.length_append,List.map_append];exact eP)|simpa using eP,(B7.o.alloc hs7 _).grown lD Al (fun rr hr=>(O7.o.lt rr hr).1),by rw[dw,HC.o.eq,Qh.o,HPV.o,if_neg (by rw[HTW.o];simp),HG2.o,nJ,ByteArray.append_assoc],by simp;omega⟩;clear eP lD;go_wp2_with fail;go_roundg(gk-1);case measure=>omega
      case rel=>exact⟨v8,(ps)++[iM n],i+1,rfl,by congr 1,oo,by simp;omega,VP.o⟩
    .go_wp2_with fail;refine(Ci m.t ma m.kids.length mc _).mono ?_;rw[Hx2.o];rintro e w4 ⟨rfl,hb4⟩;have X4:=hid (Ay X3.o hb4);have A4:=hid (A3.o.below hb4);clear hb4 a0 a1 a2 a3 b0 b1' b2' b3;obtain⟨a0,a1,a2,a3⟩:=A4.o.cs;obtain⟨b0,b1',b2',b3⟩:=HMC.o w4 X4.o;cases x2
     .have HTW:Hid (Ak (some m.t) n.t=false):=by show _=_;show(decide (m.t.kind=1)&&decide (n.t.kind=1))=false;rw[Hx2.o];rfl
      go_wp2_with fail;refine(Fq m.t ma m.kids.length mc _).mono ?_;rw[Hx3.o];rintro e Ll ⟨rfl,VQ⟩;have YC:=hid (Ay X4.o VQ);have A14:=hid (A4.o.below VQ);clear VQ a0 a1 a2 a3 b0 b1' b2' b3;obtain⟨a0,a1,a2,a3⟩:=A14.o.cs;obtain⟨b0,b1',b2',b3⟩:=HMC.o Ll YC.o;cases x3
      .have HGP:Hid (Aj (some m.t) n.t=if (!x4)=true then og else aA):=by show(if parts m.t n.t=true then og else aA)=_;rw[parts_eq,Hx3.o,Hx4.o];rfl
       go_wp2_with fail;refine(zU n.t ka n.kids.length kc _).mono ?_;rw[Hx4.o];rintro e w15 ⟨rfl,acH⟩;have X15:=hid (Ay YC.o acH);have A15:=hid (A14.o.below acH);clear acH a0 a1 a2 a3 b0 b1' b2' b3;obtain⟨a0,a1,a2,a3⟩:=A15.o.cs;obtain⟨b0,b1',b2',b3⟩:=HMC.o w15 X15.o;cases x4
       .have HG2:Hid (Aj (some m.t) n.t=og):=HGP.o;have MR:=hid (HC.o.below.trans (X15.o.mono hsr));have Ok:Hid (w15.ownsRow w.heap.size 9 1 u ps.length (ps.map Value.string)):=aP HC.o.row fun r hr=>X15.o.block r (HC.o.row.lt r hr).2;have Kk:=hid (HKV.o.below X15.o oo);have hsk:=MR.o.size;have HO:Hid ((w15.alloc (.cells #[.string ⟨#[47,42,42,47]⟩] 9)).ownsRow w.heap.size 9 1 u ps.length (ps.map Value.string)):=Ok.o.alloc _
        go_wp2_with(at_builtin;go_must(refine wpList_append_own _ rfl _ _ 26 rfl w.heap.size 9 iS (.string ⟨#[]⟩) 1 16 Tryz.underlying26 HI.o.1 HI.o.2.1 HI.o.2.2.1 HI.o.2.2.2 rfl oo u ps.length (ps.map Value.string) rfl HO.o ⟨w15.heap.size,0,none⟩ 1 1 [.string ⟨#[47,42,42,47]⟩] rfl rfl (cell_one_new _ _ _) (aT _) Ao oo Al ?_));intro v6 w6 hown6 lS _;have BL6:Hid (Below w.heap.size w w6):=(MR.o.alloc hsk _).grown lS Al (fun rr hr=>(Ok.o.lt rr hr).1);have X6:Hid (Below B w15 w6):=(As.alloc oo _).grown lS Al (fun rr hr=>by have:=(Ok.o.lt rr hr).1;omega);have A6:Hid (VB w6 gt (.int .i64 n.t.kind) (.string n.t.word) (.string n.t.unit) (.slice ka n.kids.length kc)):=by
         have hne:u.ownBlock≠some gt:=fun e=>by have:=(HC.o.row.lt gt e).2;have:=mV.o;omega
         have ai7:=A15.o.lt;show w6.heap[gt]?=_;rw[lS.block gt (by simp;omega) (fun e=>hne e.symm),Below.heap_alloc _ _ _ ai7];exact A15.o
        have O6:Hid (w6.ownsRow w.heap.size 9 1 v6 (ps++[og]).length ((ps++[og]).map Value.string)):=by show World.ownsRow _ _ _ _ _ _ _;rw[List.length_append,List.map_append];exact hown6
        have hp6:(ps++[og]).length<=2*i+1:=by simp;omega
        have K6:=hid (Kk.o.below X6.o nl);have hs6:=BL6.o.size;clear hown6 lS a0 a1 a2 a3 b0 b1' b2' b3 HO;obtain⟨a0,a1,a2,a3⟩:=A6.o.cs;go_wp2_with fail;refine pmb (vM n (HR.o n HM.o) B _ w6 K6.o oo FY.o HWZ.o) fun w7 hb7=>?_;have B7:=hid (BL6.o.trans (hb7.mono oo));have O7:Hid (w7.ownsRow w.heap.size 9 1 v6 (ps++[og]).length ((ps++[og]).map Value.string)):=aP O6.o fun r hr=>hb7.block r (O6.o.lt r hr).2;have hs7:=B7.o.size;clear hb7
        go_wp2_with(at_builtin;go_must(refine wpList_append_own _ rfl _ _ 26 rfl w.heap.size 9 iS (.string ⟨#[]⟩) 1 16 Tryz.underlying26 HI.o.1 HI.o.2.1 HI.o.2.2.1 HI.o.2.2.2 rfl oo v6 (ps++[og]).length ((ps++[og]).map Value.string) rfl (O7.o.alloc _) ⟨w7.heap.size,0,none⟩ 1 1 [.string (iM n)] rfl rfl (cell_one_new _ _ _) (aT _) (by unfold maxLen;simp;omega) oo Al ?_));intro v8 w8 eP lD _;have VP:Hid (VwI w l v8 ((ps++[og])++[iM n]) (i+1) w8):=⟨by first|(rw[List.length_append,List.map_append];exact eP)|simpa using eP,(B7.o.alloc hs7 _).grown lD Al (fun rr hr=>(O7.o.lt rr hr).1),by rw[dw,dw,HC.o.eq,Qh.o,HPV.o,if_neg (by rw[HTW.o];simp),HG2.o,ByteArray.append_assoc,ByteArray.append_assoc,ByteArray.append_assoc],by simp;omega⟩;clear eP lD;go_wp2_with fail;go_roundg(gk-1)
        case measure=>omega
        case rel=>exact⟨v8,(ps++[og])++[iM n],i+1,rfl,by congr 1,oo,by simp;omega,VP.o⟩
       .have HG2:Hid (Aj (some m.t) n.t=aA):=HGP.o;have MR:=hid (HC.o.below.trans (X15.o.mono hsr));have Ok:Hid (w15.ownsRow w.heap.size 9 1 u ps.length (ps.map Value.string)):=aP HC.o.row fun r hr=>X15.o.block r (HC.o.row.lt r hr).2;have Kk:=hid (HKV.o.below X15.o oo);have hsk:=MR.o.size;go_wp2_with fail;refine pmb (vM n (HR.o n HM.o) B _ w15 Kk.o oo FY.o HWZ.o) fun w7 hb7=>?_;have B7:=hid (MR.o.trans (hb7.mono oo));have O7:Hid (w7.ownsRow w.heap.size 9 1 u (ps).length ((ps).map Value.string)):=aP Ok.o fun r hr=>hb7.block r (Ok.o.lt r hr).2;have hs7:=B7.o.size;clear hb7
        go_wp2_with(at_builtin;go_must(refine wpList_append_own _ rfl _ _ 26 rfl w.heap.size 9 iS (.string ⟨#[]⟩) 1 16 Tryz.underlying26 HI.o.1 HI.o.2.1 HI.o.2.2.1 HI.o.2.2.2 rfl oo u (ps).length ((ps).map Value.string) rfl (O7.o.alloc _) ⟨w7.heap.size,0,none⟩ 1 1 [.string (iM n)] rfl rfl (cell_one_new _ _ _) (aT _) (by unfold maxLen;simp;omega) oo Al ?_));intro v8 w8 eP lD _;have VP:Hid (VwI w l v8 ((ps)++[iM n]) (i+1) w8):=⟨by first|(rw[List.length_append,List.map_append];exact eP)|simpa using eP,(B7.o.alloc hs7 _).grown lD Al (fun rr hr=>(O7.o.lt rr hr).1),by rw[dw,HC.o.eq,Qh.o,HPV.o,if_neg (by rw[HTW.o];simp),HG2.o,nJ,ByteArray.append_assoc],by simp;omega⟩;clear eP lD;go_wp2_with fail;go_roundg(gk-1);case measure=>omega
        case rel=>exact⟨v8,(ps)++[iM n],i+1,rfl,by congr 1,oo,by simp;omega,VP.o⟩
      .have HG2:Hid (Aj (some m.t) n.t=aA):=by show(if parts m.t n.t=true then og else aA)=_;rw[parts_eq,Hx3.o];rfl
       have MR:=hid (HC.o.below.trans (YC.o.mono hsr));have Ok:Hid (Ll.ownsRow w.heap.size 9 1 u ps.length (ps.map Value.string)):=aP HC.o.row fun r hr=>YC.o.block r (HC.o.row.lt r hr).2;have Kk:=hid (HKV.o.below YC.o oo);have hsk:=MR.o.size;go_wp2_with fail;refine pmb (vM n (HR.o n HM.o) B _ Ll Kk.o oo FY.o HWZ.o) fun w7 hb7=>?_;have B7:=hid (MR.o.trans (hb7.mono oo));have O7:Hid (w7.ownsRow w.heap.size 9 1 u (ps).length ((ps).map Value.string)):=aP Ok.o fun r hr=>hb7.block r (Ok.o.lt r hr).2;have hs7:=B7.o.size;clear hb7
       go_wp2_with(at_builtin;go_must(refine wpList_append_own _ rfl _ _ 26 rfl w.heap.size 9 iS (.string ⟨#[]⟩) 1 16 Tryz.underlying26 HI.o.1 HI.o.2.1 HI.o.2.2.1 HI.o.2.2.2 rfl oo u (ps).length ((ps).map Value.string) rfl (O7.o.alloc _) ⟨w7.heap.size,0,none⟩ 1 1 [.string (iM n)] rfl rfl (cell_one_new _ _ _) (aT _) (by unfold maxLen;simp;omega) oo Al ?_));intro v8 w8 eP lD _;have VP:Hid (VwI w l v8 ((ps)++[iM n]) (i+1) w8):=⟨by first|(rw[List.length_append,List.map_append];exact eP)|simpa using eP,(B7.o.alloc hs7 _).grown lD Al (fun rr hr=>(O7.o.lt rr hr).1),by rw[dw,HC.o.eq,Qh.o,HPV.o,if_neg (by rw[HTW.o];simp),HG2.o,nJ,ByteArray.append_assoc],by simp;omega⟩;clear eP lD;go_wp2_with fail;go_roundg(gk-1);case measure=>omega
       case rel=>exact⟨v8,(ps)++[iM n],i+1,rfl,by congr 1,oo,by simp;omega,VP.o⟩
     .have HTW:Hid (Ak (some m.t) n.t=true):=by show(decide (m.t.kind=1)&&decide (n.t.kind=1))=true;rw[Hx1.o,Hx2.o];rfl
      have MR:=hid (HC.o.below.trans (X4.o.mono hsr));have Ok:Hid (w4.ownsRow w.heap.size 9 1 u ps.length (ps.map Value.string)):=aP HC.o.row fun r hr=>X4.o.block r (HC.o.row.lt r hr).2;have Kk:=hid (HKV.o.below X4.o oo);have hsk:=MR.o.size;have VP:Hid (VwI w l u ps (i+1) w4):=⟨Ok.o,MR.o,by rw[HC.o.eq,Qh.o,HPV.o,if_pos HTW.o,nJ],oo⟩;go_wp2_with fail;go_roundg(gk-1);case measure=>omega
      case rel=>exact⟨u,ps,i+1,rfl,by congr 1,oo,oo,VP.o⟩
  .have h1:(l.length:Int)<=(i:Int):=oo;have HV:Hid (aG ps=Sp.written l):=by
    show _=_;rw[HC.o.eq,List.drop_of_length_le oo];exact(mO _).symm
   go_wp2_with fail;refine pmb (dQ ps w.heap.size u _ HC.o.row oo oo) fun w5 hb5=>?_;have B5:=hid (HC.o.below.trans (hb5.mono hsr));clear hb5;go_wp2_with fail;go_ret;exact⟨mg HV.o,B5.o⟩
theorem aal:∀(k:Nat) (l:List Nd),dL l<=k->tH l:=by
 intro k;induction k with
 |zero=>intro l h;refine MQ l fun n hn=>?_;have:=nK l n hn;obtain⟨t,q⟩:=n;unfold Cc at this;omega
 |succ k ih=>intro l h;refine MQ l fun n hn=>ih _ ?_;have:=nK l n hn;obtain⟨t,q⟩:=n;unfold Cc at this;show dL q<=k;omega
theorem uq(l:List Nd):tH l:=aal _ l nl
end
theorem LG.stp{C:wV Simple}{S:Nat->Prop}{w:WD}{l:List Step}{g o i:Nat}(h:LG (fO C) 2 S w l g o)(hi:i<l.length):∃av,w.cell? ⟨g,o+i*2,none⟩=some (.int .i64 (sG l[i].1))/\w.cell? ⟨g,o+i*2+1,none⟩=some av/\SG C 1 S w av l[i].2/\S g:=by
 obtain⟨h0,cs,⟨av,rfl,hs⟩,hc⟩:=h.at l g o i hi;refine⟨av,?_,?_,hs,h0⟩
 .have:=hc 0 _ rfl;rwa[Nat.add_zero]at this
 .exact hc 1 _ rfl
theorem LG.prt{f:Nat}{S:Nat->Prop}{w:WD}{l:List Simple}{g o i:Nat}(h:LG (aQ f) 1 S w l g o)(hi:i<l.length):∃pv,w.cell? ⟨g,o+i,none⟩=some pv/\aQ f S w l[i] [pv]/\S g:=by
 obtain⟨h0,cs,hC,hc⟩:=h.at l g o i hi;have hl:=aQ.sized f _ _ _ _ hC;obtain⟨pv,rfl⟩:∃pv,cs=[pv]:=by
  match cs,hl with
  |[pv],_=>exact⟨pv,rfl⟩
 refine⟨pv,?_,hC,h0⟩;have:=hc 0 _ rfl;rw[Nat.mul_one,Nat.add_zero]at this;exact this
def S2(w:WD)(b:Nat)(x0 x1:Av):Prop:=w.heap[b]?=some (.cells #[x0,x1] 219 (0,0))
theorem S2.cs{w:WD}{b:Nat}{x0 x1:Av}(h:S2 w b x0 x1):w.cell? ⟨b,0,none⟩=some x0/\w.cell? ⟨b,1,none⟩=some x1:=by have h':w.heap[b]?=_:=h;refine⟨?_,?_⟩<;>(unfold World.cell?;rw[h'];rfl)
theorem S2.lt{w:WD}{b:Nat}{x0 x1:Av}(h:S2 w b x0 x1):b<w.heap.size:=(Ax h)
theorem S2.new(w:WD)(x0 x1:Av):S2 (w.alloc (.cells #[x0,x1] 219)) w.heap.size x0 x1:=heap_alloc_new w _
theorem S2.keep{w w':WD}{b:Nat}{x0 x1:Av}(h:S2 w b x0 x1)(hb:w'.heap[b]?=w.heap[b]?):S2 w' b x0 x1:=by show _=_;rw[hb];exact h
structure CwI[bV](w:WD)(cx:List Step)(u:Av)(ps:List BY)(rest:BY)(wr:WD):Prop where
 row:wr.ownsRow w.heap.size 9 1 u ps.length (ps.map Value.string)
 below:Below w.heap.size w wr
 eq:dW cx=aG ps++rest
theorem aam[bV]{cx:List Step}{i:Nat}(h:i<cx.length):dW (cx.drop i)=tV cx[i].1++(vw cx[i].2++dW (cx.drop (i+1))):=by rw[List.drop_eq_getElem_cons h];generalize cx[i]=st;obtain⟨b,all⟩:=st;show(tV b++vw all)++_=_;rw[ByteArray.append_assoc]
theorem agd{cx:List Step}{i:Nat}(h:i<cx.length):zC (cx.drop i)=3+zA cx[i].2+zC (cx.drop (i+1)):=by rw[List.drop_eq_getElem_cons h];generalize cx[i]=st;obtain⟨b,all⟩:=st;rfl
theorem acI:∀(l:List Simple),120*l.length<=zA l
 |[]=>by simp
 |s::r=>by have:=acI r;obtain⟨k,nm,how,v,l,p⟩:=s;unfold zA zS;simp only[List.length_cons];omega
theorem aan[bV]{l:List Simple}{i:Nat}(h:i<l.length):vw (l.drop i)=Am l[i]++vw (l.drop (i+1)):=by rw[List.drop_eq_getElem_cons h];rfl
theorem ai8:∀(cx:List Step) (i:Nat) (_:qkC cx) (h:i<cx.length),CP cx[i].2
 |(b,all)::r,0,h,_=>by simp only[qkC]at h;exact h.2.1
 |(b,all)::r,i+1,h,hi=>by simp only[qkC]at h;exact(acw r i h.2.2 (by simpa using hi)).2
theorem acJ:∀(l:List Simple) (i:Nat) (h:i<l.length),zS l[i]<=zA l
 |s::r,0,_=>by unfold zA;simp
 |s::r,i+1,h=>by have:=acJ r i (by simpa using h);unfold zA;simp only[List.getElem_cons_succ];omega
def QX [bV] (f B : Nat) (w : WD) : Prop := ∀ (s : Simple) (pv : Av) (w' : WD), Below w.heap.size w w' → aQ f (fun b => b < B) w' s [pv] → qkS s → zS s ≤ 549755813888 → ∃ T u K rcv, pv = .iface T u ∧ (∀ W : WD, (method 503 T u "rinse/selectors.written").run prog W = .ok (K, rcv) W) ∧ (∀ (args : Array Av) (W : WD), (callFunc K args).run prog W = .ok (.enter K args) W) ∧
 Calls prog K #[rcv] w' fun e w''=>e=.returned (.string (Am s))/\Below w'.heap.size w' w''
theorem MS[bV](f B:Nat)(cx:List Step)(v:Av)(w:WD)(h:SG (fO (aQ f)) 2 (fun b=>b<B) w v cx)(hB:B<=w.heap.size)(hP:QX f B w)(hq:qkC cx)(hz:zC cx<=549755813888)(hd:jm):
  Calls prog 191 #[v] w fun e w'=>e=.returned (.string (dW cx))/\Below w.heap.size w w':=by
 have hl:=h.len;have HS:=hid h;have HP:=hid hP;have HQ:=hid hq;have HZ:Hid ((dW cx).size<=549755813888):=Nat.le_trans (qL hd cx hq) hz;have hF:Hid (Fair (fO (aQ f))):=fO.fair (aQ.fair f);have hF2:Hid (Fair (aQ f)):=aQ.fair f;obtain⟨a,cap,rfl⟩:=h.form;clear h hP hq;obtain⟨iS,wK⟩:=info_str;have HI:=hid wK;clear wK;go_in;go_wp2_with fail;go_loopg[3,10] cx.length (fun gg v3 v10 wr=>∃(u:Av) (ps:List BY) (i:Nat),u=v3/\v10=.int .i64 (i:Int)/\i+gg=cx.length/\ps.length+zC (cx.drop i)<=zC cx/\Aside (CwI w cx u ps (dW (cx.drop i)) wr))
 case atStart=>exact⟨_,[],0,rfl,rfl,oo,by simp,World.ownsRow_nil _ _ _ _,As,by rw[show aG []=aA from rfl,nJ];rfl⟩
 case round=>
  obtain⟨go,hgo⟩:∃go,go=gk:=⟨_,rfl⟩;obtain⟨u,ps,i,rfl,rfl,hi,hpl,hA⟩:=hrel;have HC:Hid (CwI w cx u ps (dW (cx.drop i)) wr):=hA.o;clear hA;have hsr:=HC.o.below.size;by_cases hlt:i<cx.length
  .have h1:(i:Int)<(cx.length:Int):=oo;obtain⟨g,o,rfl,hL,hcap⟩:=HS.o.here (by rintro rfl;simp at hlt);obtain⟨av,d0,d1,hav,hgB⟩:=hL.stp (i:=i) hlt;have agf:g<B:=hgB;rw[<-HC.o.below.cell (p:=⟨g,_,none⟩) (show g<w.heap.size by omega)]at d0 d1;have HQA:Hid (CP cx[i].2):=ai8 cx i HQ.o hlt;have hzd:=agd hlt;have hza:=acI cx[i].2;have HD:Hid (dW (cx.drop i)=tV cx[i].1++(vw cx[i].2++dW (cx.drop (i+1)))):=aam hlt;obtain⟨⟨cb,all⟩,hst⟩:∃st,st=cx[i]:=⟨_,rfl⟩;rw[<-hst]at d0 hav HD hzd hza HQA;have amw:Hid (CP all):=HQA.o;clear HQA;have hzd':zC (cx.drop i)=3+zA all+zC (cx.drop (i+1)):=hzd;have ang:120*all.length<=zA all:=hza;clear hzd hza;obtain⟨n0,hn0⟩:∃n0,n0=ps.length:=⟨_,rfl⟩;have Hn0:=hid hn0;have hn0z:n0+zC (cx.drop i)<=zC cx:=oo;clear hn0;have HAV:=hid hav
   have hal:=hav.len;obtain⟨la,lc,rfl⟩:=hav.form;clear hst hav hL;have T2:Hid (S2 (wr.alloc (.cells #[.int .i64 (sG cb),.slice la all.length lc] 219)) wr.heap.size (.int .i64 (sG cb)) (.slice la all.length lc)):=S2.new _ _ _;have X2:Hid (Below wr.heap.size wr (wr.alloc (.cells #[.int .i64 (sG cb),.slice la all.length lc] 219))):=As.alloc nl _;go_upto_region 5 with fail
   generalize wr.alloc (.cells #[.int .i64 (sG cb),.slice la all.length lc] 219)=w2 at *;obtain⟨gt,mV⟩:=Nm wr.heap.size;have T3:Hid (S2 w2 gt (.int .i64 (sG cb)) (.slice la all.length lc)):=by rw[<-mV.o];exact T2.o
   rw[mV.o];clear T2 d0 d1;obtain⟨a0,a1⟩:=T3.o.cs;have B2:=hid (HC.o.below.trans (X2.o.mono hsr));have O2:Hid (w2.ownsRow w.heap.size 9 1 u ps.length (ps.map Value.string)):=aP HC.o.row fun r hr=>X2.o.block r (HC.o.row.lt r hr).2;have hs2:=X2.o.size;go_wp2_with fail;refine pmb (af7 cb _) fun wq hwq=>?_;rw[hwq];clear hwq;go_wp2_with(at_builtin;go_must(refine wpList_append_own _ rfl _ _ 26 rfl w.heap.size 9 iS (.string ⟨#[]⟩) 1 16 Tryz.underlying26 HI.o.1 HI.o.2.1 HI.o.2.2.1 HI.o.2.2.2 rfl oo u ps.length (ps.map Value.string) rfl (O2.o.alloc _) ⟨w2.heap.size,0,none⟩ 1 1 [.string (tV cb)] rfl rfl (cell_one_new _ _ _) (aT _) Ao oo Al ?_));intro v4 w4 hown4 dS _;have hne:u.ownBlock≠some gt:=fun e=>by have:=(HC.o.row.lt gt e).2;have:=mV.o;omega
   have hlo:∀rr,u.ownBlock=some rr->w.heap.size<=rr:=fun rr hr=>(O2.o.lt rr hr).1;have hb4:Below w.heap.size w2 w4:=(As.alloc oo _).grown dS Al hlo;have T4:Hid (S2 w4 gt (.int .i64 (sG cb)) (.slice la all.length lc)):=T3.o.keep (by rw[dS.block gt (by simp;have:=T3.o.lt;omega) (fun e=>hne e.symm),Below.heap_alloc _ _ _ T3.o.lt]);have FZ:Hid (CwI w cx v4 (ps++[tV cb]) (vw all++dW (cx.drop (i+1))) w4):=⟨by first|(rw[List.length_append,List.map_append];exact hown4)|simpa using hown4,B2.o.trans hb4,by rw[HC.o.eq,HD.o,dw,ByteArray.append_assoc]⟩;have anh:(ps++[tV cb]).length<=n0+1:=by have:=Hn0.o;simp;omega
   clear hown4 dS hb4 hne hlo a0 a1;obtain⟨a0,a1⟩:=T4.o.cs;go_wp2_with fail;go_loopg[3,23] all.length (fun gg v3 v23 wr=>∃(u:Av) (ps:List BY) (m:Nat),u=v3/\v23=.int .i64 (m:Int)/\m+gg=all.length/\ps.length<=n0+1+m/\Aside (CwI w cx u ps (vw (all.drop m)++dW (cx.drop (i+1))) wr));case atStart=>exact⟨_,ps++[tV cb],0,rfl,rfl,oo,oo,FZ.o⟩
   case round=>
    obtain⟨gi,hgi⟩:∃gi,gi=gk:=⟨_,rfl⟩;obtain⟨u,ps,m,rfl,rfl,hm,hpl,hA⟩:=hrel;have xg:Hid (CwI w cx u ps (vw (all.drop m)++dW (cx.drop (i+1))) wr):=hA.o;clear hA;by_cases hlm:m<all.length
    .have h2:(m:Int)<(all.length:Int):=oo;have ai9:=xg.o.below.size;have QY:=HAV.o.below hF2.o xg.o.below hB;obtain⟨g5,o5,rfl,hL5,hcap5⟩:=QY.here (by rintro rfl;simp at hlm);obtain⟨pv,c5,hps,_⟩:=hL5.prt (i:=m) hlm;have HAD:Hid (vw (all.drop m)=Am all[m]++vw (all.drop (m+1))):=aan hlm;have hqs:=acy all m amw.o hlm;have hzs:=acJ all m hlm;obtain⟨s,hs⟩:∃s,s=all[m]:=⟨_,rfl⟩;rw[<-hs]at hps HAD hqs hzs;clear hs hL5 QY;obtain⟨T,pu,K,rcv,rfl,YD,hcall,hC⟩:=HP.o s pv wr xg.o.below hps hqs oo;have sH:=hid hC;clear hps hqs hzs hC;go_wp2_with fail;refine sH.o.mono ?_;rintro e w6 ⟨rfl,hb6⟩;have B6:=hid (xg.o.below.trans (hb6.mono ai9))
     have O6:Hid (w6.ownsRow w.heap.size 9 1 u ps.length (ps.map Value.string)):=aP xg.o.row fun r hr=>hb6.block r (xg.o.row.lt r hr).2;have hs6:=B6.o.size;clear hb6 sH YD hcall c5;go_wp2_with(at_builtin;go_must(refine wpList_append_own _ rfl _ _ 26 rfl w.heap.size 9 iS (.string ⟨#[]⟩) 1 16 Tryz.underlying26 HI.o.1 HI.o.2.1 HI.o.2.2.1 HI.o.2.2.2 rfl oo u ps.length (ps.map Value.string) rfl (O6.o.alloc _) ⟨w6.heap.size,0,none⟩ 1 1 [.string (Am s)] rfl rfl (cell_one_new _ _ _) (aT _) Ao oo Al ?_));intro v7 w7 wM Es _;have Q7:∀rr,u.ownBlock=some rr->w.heap.size<=rr:=fun rr hr=>(O6.o.lt rr hr).1
     have HC7:Hid (CwI w cx v7 (ps++[Am s]) (vw (all.drop (m+1))++dW (cx.drop (i+1))) w7):=⟨by first|(rw[List.length_append,List.map_append];exact wM)|simpa using wM,(B6.o.alloc hs6 _).grown Es Al Q7,by rw[xg.o.eq,HAD.o,dw,ByteArray.append_assoc,ByteArray.append_assoc]⟩;have amx:(ps++[Am s]).length<=n0+1+(m+1):=by simp;omega
     clear wM Es Q7;go_wp2_with fail;go_roundg(gi-1);case measure=>omega
     case rel=>exact⟨_,ps++[Am s],m+1,rfl,by congr 1,oo,amx,HC7.o⟩
    .have h2:(all.length:Int)<=(m:Int):=oo;have OA:Hid (CwI w cx u ps (dW (cx.drop (i+1))) wr):=⟨xg.o.row,xg.o.below,by rw[xg.o.eq,List.drop_of_length_le oo];show _++(aA++_)=_;rw[nJ]⟩;go_wp2_with fail;go_roundg(go-1);case measure=>omega
     case rel=>exact⟨_,ps,i+1,rfl,by congr 1,oo,oo,OA.o⟩
  .have h1:(cx.length:Int)<=(i:Int):=oo;have HV:Hid (aG ps=dW cx):=by
    show _=_;rw[HC.o.eq,List.drop_of_length_le oo];exact(mO _).symm
   have hpt:total ps<=549755813888:=by rw[<-oQ,HV.o];exact HZ.o
   go_wp2_with fail;refine pmb (dQ ps w.heap.size u _ HC.o.row oo oo) fun w5 hb5=>?_;have B5:=hid (HC.o.below.trans (hb5.mono hsr));clear hb5;go_wp2_with fail;go_ret;exact⟨mg HV.o,B5.o⟩
theorem aja (W : WD) : (method 503 311 (.agg #[]) "rinse/selectors.written").run prog W = .ok (333, .agg #[]) W := by kernel_rfl
theorem m_tag (nm : BY) (W : WD) : (method 503 309 (.agg #[.string nm]) "rinse/selectors.written").run prog W = .ok (327, .agg #[.string nm]) W := by kernel_rfl
theorem amy (nm : BY) (W : WD) : (method 503 332 (.agg #[.string nm]) "rinse/selectors.written").run prog W = .ok (336, .agg #[.string nm]) W := by kernel_rfl
theorem agh (nm : BY) (W : WD) : (method 503 333 (.agg #[.string nm]) "rinse/selectors.written").run prog W = .ok (340, .agg #[.string nm]) W := by kernel_rfl
theorem agi (nm : BY) (W : WD) : (method 503 343 (.agg #[.string nm]) "rinse/selectors.written").run prog W = .ok (358, .agg #[.string nm]) W := by kernel_rfl
theorem ajb (nm h v : BY) (W : WD) : (method 503 341 (.agg #[.string nm, .string h, .string v]) "rinse/selectors.written").run prog W = .ok (344, .agg #[.string nm, .string h, .string v]) W := by kernel_rfl
theorem OB (nm : BY) (n : Int) (W : WD) : (method 503 351 (.agg #[.string nm, .int .i64 n]) "rinse/selectors.written").run prog W = .ok (374, .agg #[.string nm, .int .i64 n]) W := by kernel_rfl
theorem ak4 (la : Option Addr) (ll lc : Nat) (W : WD) : (method 503 345 (.agg #[.slice la ll lc]) "rinse/selectors.written").run prog W = .ok (367, .agg #[.slice la ll lc]) W := by kernel_rfl
theorem amA (la : Option Addr) (ll lc : Nat) (W : WD) : (method 503 346 (.agg #[.slice la ll lc]) "rinse/selectors.written").run prog W = .ok (371, .agg #[.slice la ll lc]) W := by kernel_rfl
def Road (pv : Av) (o : BY) (w : WD) : Prop := ∃ T u K rcv, pv = .iface T u ∧ (∀ W : WD, (method 503 T u "rinse/selectors.written").run prog W = .ok (K, rcv) W) ∧ (∀ (args : Array Av) (W : WD), (callFunc K args).run prog W = .ok (.enter K args) W) ∧
 Calls prog K #[rcv] w fun e w''=>e=.returned (.string o)/\Below w.heap.size w w''
theorem road[bV](k:Nat)(nm how v:BY)(l:bY)(p:Nat)(la:Option Addr)(ll lc:Nat)(w:WD)(hq:PrN k nm how v p)(hI:jD w)(hd:jm)(hz:(jV aA l).size<=549755813888)
  (hL:∀w',Below w.heap.size w w'->Calls prog 324 #[.slice la ll lc] w' fun e w''=>e=.returned (.string (jV aA l))/\Below w'.heap.size w' w''):
  Road (fE k nm how v (.slice la ll lc) p) (Am (.mk k nm how v l p)) w:=by
 have hn:=hq.nmz;unfold fE;conv=>arg 2;unfold Am
 by_cases k1:k=116
 .rw[if_pos k1,if_pos k1];by_cases e:nm=aA
  .rw[if_pos e,if_pos e];exact⟨_,_,_,_,rfl,aja,fun _ _=>rfl,af8 w⟩
  .rw[if_neg e,if_neg e];exact⟨_,_,_,_,rfl,m_tag nm,fun _ _=>rfl,ai1 nm w hn⟩
 rw[if_neg k1,if_neg k1];by_cases k2:k=35
 .rw[if_pos k2,if_pos k2];exact⟨_,_,_,_,rfl,amy nm,fun _ _=>rfl,akX nm w hn⟩
 rw[if_neg k2,if_neg k2];by_cases k3:k=46
 .rw[if_pos k3,if_pos k3];exact⟨_,_,_,_,rfl,agh nm,fun _ _=>rfl,acr nm w hn⟩
 rw[if_neg k3,if_neg k3];by_cases k4:k=91
 .rw[if_pos k4,if_pos k4];exact⟨_,_,_,_,rfl,ajb nm how v,fun _ _=>rfl,af9 nm how v w hn hq.hwz hq.val⟩
 rw[if_neg k4,if_neg k4];by_cases k5:nm=nD
 .rw[if_pos k5,if_pos (.inl k5)];subst k5;exact⟨_,_,_,_,rfl,ak4 la ll lc,fun _ _=>rfl,ai3 la ll lc _ w hz hL⟩
 rw[if_neg k5];by_cases k6:nm=DY
 .rw[if_pos k6,if_pos (.inr k6)];subst k6;exact⟨_,_,_,_,rfl,amA la ll lc,fun _ _=>rfl,akY la ll lc _ w hz hL⟩
 rw[if_neg k6,if_neg (show ¬(nm=nD\/nm=DY) from fun h=>h.elim k5 k6)];by_cases k7:nm=nG
 .rw[if_pos k7,if_pos k7];subst k7;by_cases p0:p=0
  .rw[if_pos p0,if_pos p0];exact⟨_,_,_,_,rfl,OB sZ 0,fun _ _=>rfl,QJ sZ w (by rw[fC];rfl) Ab⟩
  rw[if_neg p0,if_neg p0];by_cases p1:p=1
  .rw[if_pos p1,if_pos p1];exact⟨_,_,_,_,rfl,OB l7 0,fun _ _=>rfl,QJ l7 w (by rw[fC];rfl) Ab⟩
  rw[if_neg p1,if_neg p1];have hp:=hq.place;exact⟨_,_,_,_,rfl,OB aA _,fun _ _=>rfl,acu (p-2) w oo hI (hd _ oo)⟩
 rw[if_neg k7,if_neg k7];exact⟨_,_,_,_,rfl,agi nm,fun _ _=>rfl,acs nm w hn⟩
theorem MV[bV]:∀(r:bY) (c:List Step),jX (b1 44) ((c::r).map dW)=dW c++qC aA r
 |[],c=>by show dW c=dW c++qC aA [];unfold qC;exact(mO _).symm
 |d::q,c=>by
  have ih:=MV q d;show dW c++(b1 44++jX (b1 44) ((d::q).map dW))=_;rw[ih];conv=>rhs;unfold qC
  rw[nJ]
theorem acK[bV](ss:bY):jX (b1 44) (ss.map dW)=jV aA ss:=by
 cases ss with
 |nil=>rfl
 |cons c r=>rw[MV];unfold jV;rw[nJ]
theorem YE[bV](hd:jm):∀(ss:bY),CO ss->total (ss.map dW)+ss.length<=zL ss
 |[],_=>by simp[total]
 |c::r,hq=>by simp only[CO]at hq;have:=YE hd r hq.2;have:=qL hd c hq.1;unfold zL;simp only[List.map_cons,total,List.length_cons];omega
theorem VR:∀(ss:bY) (i:Nat) (h:i<ss.length),zC ss[i]<=zL ss
 |c::r,0,_=>by unfold zL;simp;omega
 |c::r,i+1,h=>by have:=VR r i (by simpa using h);unfold zL;simp only[List.getElem_cons_succ];omega
theorem LG.cpx{f:Nat}{S:Nat->Prop}{w:WD}{l:bY}{g o i:Nat}(h:LG (AA (aQ f)) 1 S w l g o)(hi:i<l.length):∃cv,w.cell? ⟨g,o+i,none⟩=some cv/\SG (fO (aQ f)) 2 S w cv l[i]:=by obtain⟨h0,cs,⟨cv,rfl,hs⟩,hc⟩:=h.at l g o i hi;refine⟨cv,?_,hs⟩;have:=hc 0 _ rfl;rw[Nat.mul_one,Nat.add_zero]at this;exact this
theorem YF[bV](f B:Nat)(ss:bY)(v:Av)(w:WD)(h:SG (AA (aQ f)) 1 (fun b=>b<B) w v ss)(hB:B<=w.heap.size)(hP:ss≠[]->∀w',Below w.heap.size w w'->QX f B w')(hq:CO ss)(hz:zL ss<=549755813888)(hd:jm):
  Calls prog 324 #[v] w fun e w'=>e=.returned (.string (jV aA ss))/\Below w.heap.size w w':=by
 have hl:=h.len;have HS:=hid h;have HP:=hid hP;have HQ:=hid hq;have hF:Hid (Fair (fO (aQ f))):=fO.fair (aQ.fair f);have Lm:Hid (jX (b1 44) (ss.map dW)=jV aA ss):=acK ss;have htot:=YE hd ss hq;obtain⟨a,cap,rfl⟩:=h.form;clear h hP hq;obtain⟨iS,wK⟩:=info_str;have HI:=hid wK;clear wK;go_in;go_wp2_with fail;go_loopg[3,8] ss.length (fun gg v3 v8 wr=>∃(u:Av) (i:Nat),u=v3/\v8=.int .i64 (i:Int)/\i+gg=ss.length/\Aside (wr.ownsRow w.heap.size 9 1 u i (((ss.take i).map dW).map Value.string)/\Below w.heap.size w wr));case atStart=>exact⟨_,0,rfl,rfl,oo,World.ownsRow_nil _ _ _ _,As⟩
 case round=>
  obtain⟨u,i,rfl,rfl,hi,hA⟩:=hrel;have O1:=hid hA.o.1;have B1:=hid hA.o.2;clear hA;have hsr:=B1.o.size;by_cases hlt:i<ss.length
  .have h1:(i:Int)<(ss.length:Int):=oo;obtain⟨g,o,rfl,hL,hcap⟩:=HS.o.here (by rintro rfl;simp at hlt);have hgB:g<B:=(hL.at ss g o i hlt).1;obtain⟨cv,d0,hcv⟩:=hL.cpx (i:=i) hlt;rw[<-B1.o.cell (p:=⟨g,_,none⟩) (show g<w.heap.size by omega)]at d0;have HT:Hid (ss.take (i+1)=ss.take i++[ss[i]]):=List.take_succ_eq_append_getElem hlt;have hqc:=VG ss i HQ.o hlt;have hzc:=VR ss i hlt;obtain⟨cx,hcx⟩:∃c,c=ss[i]:=⟨_,rfl⟩;rw[<-hcx]at hcv HT hqc hzc;obtain⟨ca,cc,rfl⟩:=hcv.form;have HW:Hid (Calls prog 191 #[.slice ca cx.length cc] wr fun e w'=>e=.returned (.string (dW cx))/\Below wr.heap.size wr w'):=
    MS f B cx _ wr (hcv.below hF.o B1.o hB) oo (HP.o (by rintro rfl;simp at hlt) wr B1.o) hqc oo hd
   clear hL hcx hcv hqc hzc;go_wp2_with fail;refine HW.o.mono ?_;obtain⟨x,Hx⟩:=Nm (dW cx);rw[Hx.o];rintro e w2 ⟨rfl,hb2⟩;have B2:=hid (B1.o.trans (hb2.mono hsr));have O2:Hid (w2.ownsRow w.heap.size 9 1 u i (((ss.take i).map dW).map Value.string)):=aP O1.o fun r hr=>hb2.block r (O1.o.lt r hr).2;have hs2:=B2.o.size;clear hb2 HW d0;go_wp2_with(at_builtin;go_must(refine wpList_append_own _ rfl _ _ 26 rfl w.heap.size 9 iS (.string ⟨#[]⟩) 1 16 Tryz.underlying26 HI.o.1 HI.o.2.1 HI.o.2.2.1 HI.o.2.2.2 rfl oo u i (((ss.take i).map dW).map Value.string) rfl (O2.o.alloc _) ⟨w2.heap.size,0,none⟩ 1 1 [.string x] rfl rfl (cell_one_new _ _ _) (aT _) Ao oo Al ?_));intro v4 w4 hown4 dS _
   rw[show List.take i (List.map (Value.string ∘ dW) ss)=List.map Value.string (List.map dW (List.take i ss)) by simp]at hown4;have O4:Hid (w4.ownsRow w.heap.size 9 1 v4 (i+1) (((ss.take (i+1)).map dW).map Value.string)):=by show World.ownsRow _ _ _ _ _ _ _;rw[HT.o,List.map_append,List.map_append,List.map_cons,List.map_nil,Hx.o];exact hown4
   have B4:Hid (Below w.heap.size w w4):=(B2.o.alloc hs2 _).grown dS Al (fun rr hr=>(O2.o.lt rr hr).1);clear hown4 dS;go_wp2_with fail;go_roundg(gk-1);case measure=>omega
   case rel=>exact⟨v4,i+1,rfl,by congr 1,oo,O4.o,B4.o⟩
  .have h1:(ss.length:Int)<=(i:Int):=oo;have hie:i=ss.length:=oo;subst hie;have O5:Hid (wr.ownsRow w.heap.size 9 1 u (ss.map dW).length ((ss.map dW).map Value.string)):=by
    have:=O1.o;rw[List.take_of_length_le nl]at this;show World.ownsRow _ _ _ _ _ _ _;rw[List.length_map];exact this
   go_wp2_with fail;refine(Ii (b1 44) (ss.map dW) w.heap.size u _ O5.o (by rw[List.length_map];omega) (by unfold acj;rw[List.length_map];show _+ss.length*1<=_;omega)).mono ?_;rw[Lm.o];rintro e w5 ⟨rfl,hb5⟩;have B5:=hid (B1.o.trans (hb5.mono hsr));clear hb5;go_wp2_with fail;go_ret;exact⟨rfl,B5.o⟩
theorem MX[bV](hd:jm):∀(f B:Nat) (w:WD),jD w->B<=w.heap.size->QX f B w
 |0,B,w,hI,hB=>by intro s pv w' hb hps hq hz;obtain⟨k,nm,how,v,l,p⟩:=s;obtain⟨rfl,a,c,e⟩:=hps;obtain rfl:pv=fE k nm how v (.slice a 0 c) p:=(List.cons.inj e).1;simp only[qkS]at hq;refine road k nm how v [] p a 0 c w' hq.1 (hI.below hb nl) hd (by show 0<=_;omega) ?_;intro w2 hb2;exact YF 0 B [] _ w2 (SG.iE _ _ _ _ _ _) (by have:=hb.size;have:=hb2.size;omega) (fun h=>absurd rfl h) (by simp[CO]) (by show 0<=_;omega) hd
 |f+1,B,w,hI,hB=>by
  intro s pv w' hb hps hq hz;obtain⟨k,nm,how,v,l,p⟩:=s;obtain⟨lv,e,hsg⟩:=hps;obtain rfl:pv=fE k nm how v lv p:=(List.cons.inj e).1;obtain⟨la,lc,rfl⟩:=hsg.form;simp only[qkS]at hq;have hs:=hb.size;have hzl:zL l<=549755813888:=by unfold zS at hz;omega
  refine road k nm how v l p la l.length lc w' hq.1 (hI.below hb nl) hd (Nat.le_trans (Iq hd l hq.2) hzl) ?_;intro w2 hb2;have hs2:=hb2.size;exact YF f B l _ w2 (hsg.below (One.fair (fO.fair (aQ.fair f))) hb2 oo) oo (fun _ w3 hb3=>MX hd f B w3 (((hI.below hb nl).below hb2 nl).below hb3 nl) (by have:=hb3.size;omega)) hq.2 hzl hd
theorem ajc[bV](f B:Nat)(cx:List Step)(v:Av)(w:WD)(h:SG (fO (aQ f)) 2 (fun b=>b<B) w v cx)(hB:B<=w.heap.size)(hI:jD w)(hq:qkC cx)(hz:zC cx<=549755813888)(hd:jm):
  Calls prog 191 #[v] w fun e w'=>e=.returned (.string (dW cx))/\Below w.heap.size w w':=
 MS f B cx v w h hB (MX hd f B w hI hB) hq hz hd
section
attribute [local go_sem] bI bJ aX aY
theorem Sl.ajd{S:Nat->Prop}{w:WD}{a:Option Addr}{cap:Nat}{ns:List Nd}(h:Sl S w (.slice a ns.length cap) ns)(j:Nat)(hj:j<=ns.length):
  (∀W:WD,(Instr.slice 128 (.slice a ns.length cap) none (some (.int .i64 (j:Int))) none).run prog W=.ok (.slice a j cap) W)/\Sl S w (.slice a j cap) (ns.take j):=by
 have hc:ns.length<=cap:=by obtain⟨_,_,e,hc,_⟩:=h;cases e;exact hc.1
 refine⟨fun W=>?_,h.init j hj⟩;rw[run_slice_h (P:=prog) W 128 a ns.length cap Tryz.underlying128 .i64 j oo oo];obtain⟨iT,h1,_,h3,_⟩:=yZ;have e:prog.elem 128=199:=by kernel_rfl
 by_cases h0:cap=0
 .simp[sizeOf,typeInfo,e,h1,h3,sliced,Result.andThen,h0]
 .have h0':¬0=cap:=fun q=>h0 q.symm;simp[sizeOf,typeInfo,e,h1,h3,sliced,Result.andThen,h0];cases a<;>simp[Addr.add]
theorem Sl.rests{S:Nat->Prop}{w:WD}{a:Option Addr}{cap:Nat}{ns:List Nd}(h:Sl S w (.slice a ns.length cap) ns)(i:Nat)(hi:i<=ns.length):
  ∃a' c',(∀W:WD,(Instr.slice 128 (.slice a ns.length cap) (some (.int .i64 (i:Int))) none none).run prog W=.ok (.slice a' (ns.length-i) c') W)/\Sl S w (.slice a' (ns.length-i) c') (ns.drop i):=by
 obtain⟨iT,h1,_,h3,_⟩:=yZ;refine⟨if cap=i then a else a.map (·.add (i*4)),cap-i,fun W=>?_,?_⟩
 .rw[run_slice_l (P:=prog) W 128 a ns.length cap Tryz.underlying128 .i64 i oo oo];have e:prog.elem 128=199:=by kernel_rfl
  simp[sizeOf,typeInfo,e,h1,h3,sliced,Result.andThen]
 .have:=h.cut i ns.length hi nl;rw[List.take_of_length_le nl]at this;simpa[sliced]using this
theorem Q8(t:Tok)(kv:Av)(x:BY)(w:WD)(hw:t.word.size<=4000000):
  Calls prog 161 #[fB t kv,.string x] w fun e w'=>e=.returned (.bool (ru (.mk t []) x))/\Below w.heap.size w w':=by
 unfold fB;have B2:Hid (Below w.heap.size w (w.alloc (.cells #[.int .i64 t.kind,.string t.word,.string t.unit,kv] 199))):=As.alloc nl _;cases h:(t.kind==14)
 .have HV:Hid (ru (.mk t []) x=false):=by show _=_;simp at h;simp[ru,h]
  go_in;go_wp2_with fail;go_ret;exact⟨aC HV.o.symm,B2.o⟩
 .have HV:Hid (ru (.mk t []) x=((small t.word).toList==x.toList)):=by show _=_;rw[bytes_beq];simp at h;simp[ru,h];rfl
  go_in;go_wp2_with fail;have hs2:=B2.o.size;refine pmb (nH t.word _ hw) fun w3 hb3=>?_;have B3:=hid (B2.o.trans (hb3.mono hs2));clear hb3;go_wp2_with fail;go_ret;exact⟨aC HV.o.symm,B3.o⟩
def jY(zs:List BY)(n:Nd):Bool:=decide (n.t.kind=15)&&Lib.containsS zs n.t.word
theorem MZ(st:Nd->Bool):∀(l:List Nd) (i:Nat) (h:i<l.length),(∀k (hk:k<i),st (l[k]'oo)=false)->st l[i]=true->bG st l=(l.take i,some l[i],l.drop (i+1))
 |n::r,0,h,_,h2=>by unfold bG;rw[if_pos (by simpa using h2)];rfl
 |n::r,i+1,h,h1,h2=>by have h0:=h1 0 oo;simp at h0;unfold bG;rw[if_neg (by rw[h0];simp),MZ st r i (by simpa using h) (fun k hk=>by simpa using h1 (k+1) oo) (by simpa using h2)];rfl
theorem Rf(st:Nd->Bool):∀(l:List Nd),(∀k (hk:k<l.length),st l[k]=false)->bG st l=(l,none,[])
 |[],_=>rfl
 |n::r,h1=>by have h0:=h1 0 Aa;simp at h0;unfold bG;rw[if_neg (by rw[h0];simp),Rf st r (fun k hk=>show st r[k]=false from h1 (k+1) (by simpa using hk))]
structure Rh(B:Nat)(w:WD)(c:List Nd×Option Nd×List Nd)(v1 sv v2:Av):Prop where
 ahead:Sl (fun b=>b<B) w v1 c.1
 behind:Sl (fun b=>b<B) w v2 c.2.2
 stop:match c.2.1 with|none=>sv=fB ⟨0,⟨#[]⟩,⟨#[]⟩⟩ (.slice none 0 0)|some n=>∃kv,sv=fB n.t kv/\Sl (fun b=>b<B) w kv n.kids/\dI n.t
def Rg(L B:Nat):Nat->Prop:=fun b=>L<=b/\b<B
theorem Sl.vO{L B B':Nat}{w w':WD}{v:Av}{ns:List Nd}(h:Sl (Rg L B) w v ns)(hb:Below B' w w')(hB:B<=B'):Sl (Rg L B) w' v ns:=h.keep (fun _ hg=>hg) fun g hg=>hb.block g (Nat.lt_of_lt_of_le hg.2 hB)
structure acL(L B:Nat)(w:WD)(c:List Nd×Option Nd×List Nd)(v1 sv v2:Av):Prop where
 ahead:Sl (Rg L B) w v1 c.1
 behind:Sl (Rg L B) w v2 c.2.2
 stop:match c.2.1 with|none=>sv=fB ⟨0,⟨#[]⟩,⟨#[]⟩⟩ (.slice none 0 0)|some n=>∃kv,sv=fB n.t kv/\Sl (Rg L B) w kv n.kids/\dI n.t
theorem acM(L B:Nat)(l:List Nd)(v:Av)(zs:List BY)(sg:Nat)(w:WD)(h:Sl (Rg L B) w v l)(hB:B<=w.heap.size)(hz:zs.length<=10)
  (hsg:sg<w.heap.size) (hc:∀j,j<zs.length->w.cell? ⟨sg,0+j,none⟩=some (.string (zs.getD j ByteArray.empty))):
  Calls prog 157 #[v,.slice (some ⟨sg,0,none⟩) zs.length zs.length] w fun e w'=>∃v1 sv v2,e=.returned (.tuple #[v1,sv,v2])/\acL L B w' (bG (jY zs) l) v1 sv v2/\Below w.heap.size w w':=by
 have FU:=h.len;have HS:=hid h;have HC:=hid hc;obtain⟨a,cap,rfl⟩:=h.form;clear h hc;have Z0:Hid (VB (w.alloc (.cells #[.int .i64 0,.string ⟨#[]⟩,.string ⟨#[]⟩,.slice none 0 0] 199)) w.heap.size (.int .i64 0) (.string ⟨#[]⟩) (.string ⟨#[]⟩) (.slice none 0 0)):=VB.new _ _ _ _ _;have B0:Hid (Below w.heap.size w (w.alloc (.cells #[.int .i64 0,.string ⟨#[]⟩,.string ⟨#[]⟩,.slice none 0 0] 199))):=As.alloc nl _;go_in;go_wp2_with fail;have hsz0:=B0.o.size;have hlt0:=Z0.o.lt;generalize w.alloc (.cells #[.int .i64 0,.string ⟨#[]⟩,.string ⟨#[]⟩,.slice none 0 0] 199)=w0 at *;obtain⟨rb,zV⟩:=Nm w.heap.size;have hrb:w.heap.size=rb:=zV.o
 have Z1:Hid (VB w0 rb (.int .i64 0) (.string ⟨#[]⟩) (.string ⟨#[]⟩) (.slice none 0 0)):=by rw[<-zV.o];exact Z0.o
 rw[zV.o]at B0 hlt0 hsz0 hB hsg⊢;clear Z0 hrb;go_loopg[11] l.length (fun gg v11 wr=>∃i:Nat,v11=.int .i64 (i:Int)/\i+gg=l.length/\Aside (Below w0.heap.size w0 wr/\∀k (hk:k<l.length),k<i->jY zs l[k]=false));case atStart=>exact⟨0,rfl,oo,As,fun k hk h=>by omega⟩
 case round=>
  obtain⟨i,rfl,hi,hA⟩:=hrel;have BR:=hid hA.o.1;have HN:=hid hA.o.2;clear hA;have hsr:=BR.o.size;have BW:=hid (B0.o.trans (BR.o.mono hsz0));by_cases hlt:i<l.length
  .have h1:(i:Int)<(l.length:Int):=oo;have S1:=HS.o.vO BW.o hB;obtain⟨g,o,rfl,hL,hcap⟩:=S1.here (by rintro rfl;simp at hlt);obtain⟨kv,hN⟩:=hL.node (i:=i) hlt;obtain⟨n,hn⟩:∃n,n=l[i]:=⟨_,rfl⟩;rw[<-hn]at hN;have Hn:=hid hn;have FY:=hid hN.ok;have HKV:=hid hN.k;obtain⟨ka,kc,rfl⟩:=hN.k.form;have d0:=hN.c0;have d1:=hN.c1;have d2:=hN.c2;have d3:=hN.c3;have hgB:g<B:=hN.s.2;clear hN hL S1 hn;have A2:Hid (VB (wr.alloc (.cells #[.int .i64 n.t.kind,.string n.t.word,.string n.t.unit,.slice ka n.kids.length kc] 199)) wr.heap.size (.int .i64 n.t.kind) (.string n.t.word) (.string n.t.unit) (.slice ka n.kids.length kc)):=VB.new _ _ _ _ _;have X2:Hid (Below wr.heap.size wr (wr.alloc (.cells #[.int .i64 n.t.kind,.string n.t.word,.string n.t.unit,.slice ka n.kids.length kc] 199))):=As.alloc nl _
   go_upto_region 4 with fail
   generalize wr.alloc (.cells #[.int .i64 n.t.kind,.string n.t.word,.string n.t.unit,.slice ka n.kids.length kc] 199)=w2 at *;obtain⟨gt,mV⟩:=Nm wr.heap.size;have A3:Hid (VB w2 gt (.int .i64 n.t.kind) (.string n.t.word) (.string n.t.unit) (.slice ka n.kids.length kc)):=by rw[<-mV.o];exact A2
   rw[mV.o];clear A2 d0 d1 d2 d3;obtain⟨a0,a1,a2,a3⟩:=A3.o.cs;have B2:=hid (BR.o.trans (X2.o.mono hsr));have BW2:=hid (B0.o.trans (B2.o.mono hsz0));have hs2:=B2.o.size;have IE:∀j,j<zs.length->w2.cell? ⟨sg,0+j,none⟩=some (.string (zs.getD j ByteArray.empty)):=fun j hj=>by rw[BW2.o.cell (p:=⟨sg,_,none⟩) hsg];exact HC.o j hj
   have HCT:=Tryz.slices_Contains_string sg 0 zs.length zs.length zs n.t.word w2 nl oo IE;rw[List.take_of_length_le nl]at HCT;obtain⟨z,Hz⟩:=Nm (Lib.containsS zs n.t.word);rw[Hz.o]at HCT;have agj:=hid HCT;clear HCT IE;cases hk:(n.t.kind==15)
   .have HST:Hid (jY zs n=false):=by show(decide (n.t.kind=15)&&_)=false;rw[show decide (n.t.kind=15)=false from by simpa using hk];rfl
    have HN2:Hid (∀k (hk:k<l.length),k<i+1->jY zs l[k]=false):=fun k hk hki=>by
     by_cases e:k=i
     .subst e;rw[<-Hn.o];exact HST.o
     .exact HN.o k hk oo
    go_wp2_with fail;go_roundg(gk-1);case measure=>omega
    case rel=>exact⟨i+1,by congr 1,oo,B2.o,HN2.o⟩
   .have hkd:decide (n.t.kind=15)=true:=by simpa using hk
    go_wp2_with fail;refine agj.o.mono ?_;rintro e wq ⟨rfl,hwq⟩;rw[hwq];clear hwq;cases z
    .have HST:Hid (jY zs n=false):=by show(decide (n.t.kind=15)&&_)=false;rw[Hz.o];exact Bool.and_false _
     have HN2:Hid (∀k (hk:k<l.length),k<i+1->jY zs l[k]=false):=fun k hk hki=>by
      by_cases e:k=i
      .subst e;rw[<-Hn.o];exact HST.o
      .exact HN.o k hk oo
     go_wp2_with fail;go_roundg(gk-1);case measure=>omega
     case rel=>exact⟨i+1,by congr 1,oo,B2.o,HN2.o⟩
    .have HST:Hid (jY zs n=true):=by show(decide (n.t.kind=15)&&_)=true;rw[Hz.o,hkd];rfl
     have HV:Hid (bG (jY zs) l=(l.take i,some n,l.drop (i+1))):=by
      show _=_;have hst:jY zs l[i]=true:=by rw[<-Hn.o];exact HST.o
      rw[Hn.o];exact MZ _ l i hlt (fun k hk=>HN.o k oo hk) hst
     have S2:=HS.o.vO BW2.o hB;obtain⟨hr1,hS1⟩:=S2.ajd i oo;obtain⟨ra,rc,hr2,hS2⟩:=S2.rests (i+1) oo;rw[show(((i+1:Nat)):Int)=(i:Int)+1 by omega]at hr2;have HS1:=hid hS1;have HS2:=hid hS2;have HK2:=hid (HKV.o.vO X2.o oo);clear hS1 hS2 S2 hkd;have hwi:IntKind.i64.wrap ((i:Int)+1)=(i:Int)+1:=by rw[IntKind.wrap_i64];omega
     have Z2:Hid (VB w2 rb (.int .i64 0) (.string ⟨#[]⟩) (.string ⟨#[]⟩) (.slice none 0 0)):=by show _=_;rw[B2.o.block rb hlt0];exact Z1.o
     have z0:=Z2.o.fz 0;have z1:=Z2.o.fz 1;have z2:=Z2.o.fz 2;have z3:=Z2.o.fz 3;obtain⟨q0,q1,q2,q3⟩:=Z2.o.cs;have hne:gt≠rb:=by have:=mV.o;omega
     go_wp2_with fail;refine wp_region_any An ?_;change wpAny _ _ _ _ _ _ _ (World.drew _);have AD:Hid (VB w2.drew gt (.int .i64 n.t.kind) (.string n.t.word) (.string n.t.unit) (.slice ka n.kids.length kc)):=A3.o;have A9:Hid (VB (qF w2.drew rb (.int .i64 n.t.kind) (.string n.t.word) (.string n.t.unit) (.slice ka n.kids.length kc)) gt (.int .i64 n.t.kind) (.string n.t.word) (.string n.t.unit) (.slice ka n.kids.length kc)):=by show _=_;rw[jv w2.drew hne];exact A3.o
     have BD:Hid (Below rb w w2.drew):=BW2.o.drew;refine wpAny_of_held (S:=fun wx=>VB wx gt (.int .i64 n.t.kind) (.string n.t.word) (.string n.t.unit) (.slice ka n.kids.length kc)) _ _ _ _ ?_;clear a0 a1 a2 a3;refine dH 0 rfl AD.o (by intro w hSw;obtain⟨a0,a1,a2,a3⟩:=hSw.cs;exact gs) ?_;refine dH 1 rfl AD.o (by intro w hSw;obtain⟨a0,a1,a2,a3⟩:=hSw.cs;exact gs) ?_;refine dH 2 rfl AD.o (by intro w hSw;obtain⟨a0,a1,a2,a3⟩:=hSw.cs;exact gs) ?_;refine dH 3 rfl AD.o (by intro w hSw;obtain⟨a0,a1,a2,a3⟩:=hSw.cs;exact gs) ?_;refine dH 4 rfl AD.o (by intro w hSw;obtain⟨a0,a1,a2,a3⟩:=hSw.cs;exact gs) ?_;refine dH 5 rfl AD.o (by intro w hSw;obtain⟨a0,a1,a2,a3⟩:=hSw.cs;exact gs) ?_
     refine dH 6 rfl AD.o (by intro w hSw;obtain⟨a0,a1,a2,a3⟩:=hSw.cs;exact gs) ?_;refine dH 7 rfl AD.o (by intro w hSw;obtain⟨a0,a1,a2,a3⟩:=hSw.cs;exact gs) ?_;refine iW 8 fun K hK=>?_;go_simp;refine hK.o _ _ (AD.o) (fun _=>?_);clear hK K;refine iW 9 fun K hK=>?_;go_simp;refine hK.o _ _ (A9.o) (fun _=>?_);clear hK K;refine iW 10 fun K hK=>?_;go_simp;refine hK.o _ _ (A9.o) (fun _=>?_);clear hK K;refine wpAnyH_done An ?_ _;go_wp2_with fail;refine bodyPost_ret (v:=.tuple #[.slice (some ⟨g,o,none⟩) i cap,fB n.t (.slice ka n.kids.length kc),.slice ra (l.length-(i+1)) rc]) (by simp[results,Tryz.results157,go_sem,fB,q0,q1,q2,q3]) rfl ?_
     have hst:∀k,k<B->(qF w2.drew rb (.int .i64 n.t.kind) (.string n.t.word) (.string n.t.unit) (.slice ka n.kids.length kc)).heap[k]?=w2.heap[k]?:=fun k hk=>jv w2.drew oo _ _ _ _;exact⟨_,_,_,rfl,by rw[HV.o];exact⟨HS1.o.keep (fun _ hg=>hg) (fun k hk=>hst k hk.2),HS2.o.keep (fun _ hg=>hg) (fun k hk=>hst k hk.2),⟨_,rfl,HK2.o.keep (fun _ hg=>hg) (fun k hk=>hst k hk.2),FY.o⟩⟩,by rw[zV.o];exact oO BD.o nl _ _ _ _⟩
  .have h1:(l.length:Int)<=(i:Int):=oo;have HV:Hid (bG (jY zs) l=(l,none,[])):=Rf _ l fun k hk=>HN.o k hk oo;have Z2:Hid (VB wr rb (.int .i64 0) (.string ⟨#[]⟩) (.string ⟨#[]⟩) (.slice none 0 0)):=by show _=_;rw[BR.o.block rb hlt0];exact Z1.o
   have z0:=Z2.o.fz 0;have z1:=Z2.o.fz 1;have z2:=Z2.o.fz 2;have z3:=Z2.o.fz 3;obtain⟨q0,q1,q2,q3⟩:=Z2.o.cs;go_wp2_with fail;refine bodyPost_ret (v:=.tuple #[.slice a l.length cap,fB ⟨0,⟨#[]⟩,⟨#[]⟩⟩ (.slice none 0 0),.slice none 0 0]) (by simp[results,Tryz.results157,go_sem,fB,q0,q1,q2,q3]) rfl ?_;exact⟨_,_,_,rfl,by rw[HV.o];exact⟨(HS.o.vO BW.o hB).keep (fun _ hg=>hg) (fun k hk=>jv wr (by have hk':k<B:=hk.2;omega) _ _ _ _),Sl.nil _ _,rfl⟩,by rw[zV.o];exact oO BW.o nl _ _ _ _⟩
theorem ail(B:Nat)(l:List Nd)(v:Av)(zs:List BY)(sg:Nat)(w:WD)(h:Sl (fun b=>b<B) w v l)(hB:B<=w.heap.size)(hz:zs.length<=10)
  (hsg:sg<w.heap.size) (hc:∀j,j<zs.length->w.cell? ⟨sg,0+j,none⟩=some (.string (zs.getD j ByteArray.empty))):
  Calls prog 157 #[v,.slice (some ⟨sg,0,none⟩) zs.length zs.length] w fun e w'=>∃v1 sv v2,e=.returned (.tuple #[v1,sv,v2])/\Rh B w' (bG (jY zs) l) v1 sv v2/\Below w.heap.size w w':=by
 refine(acM 0 B l v zs sg w (h.keep (fun _ hb=>⟨Nat.zero_le _,hb⟩) (fun _ _=>rfl)) hB hz hsg hc).mono ?_;rintro e w' ⟨v1,sv,v2,h1,h2,h3⟩;refine⟨v1,sv,v2,h1,⟨h2.ahead.keep (fun _ hb=>hb.2) (fun _ _=>rfl),h2.behind.keep (fun _ hb=>hb.2) (fun _ _=>rfl),?_⟩,h3⟩;have h4:=h2.stop;generalize(bG (jY zs) l).2.1=o at h4⊢;cases o with
 |none=>exact h4
 |some n=>obtain⟨kv,a1,a2,a3⟩:=h4;exact⟨kv,a1,a2.keep (fun _ hb=>hb.2) (fun _ _=>rfl),a3⟩
end
section
attribute [local go_sem] bI bJ aX aY
def Q4(T:TypeId)(w:WD)(b:Nat)(x0 x1 x2 x3:Av):Prop:=w.heap[b]?=some (.cells #[x0,x1,x2,x3] T (0,0))
section
variable {T:TypeId} {w w':WD} {b:Nat} {x0 x1 x2 x3:Av}
theorem Q4.lt(h:Q4 T w b x0 x1 x2 x3):b<w.heap.size:=(Ax h)
theorem Q4.cs(h:Q4 T w b x0 x1 x2 x3):w.cell? ⟨b,0,none⟩=some x0/\w.cell? ⟨b,1,none⟩=some x1/\w.cell? ⟨b,2,none⟩=some x2/\w.cell? ⟨b,3,none⟩=some x3:=by have h':w.heap[b]?=_:=h;refine⟨?_,?_,?_,?_⟩<;>(unfold World.cell?;rw[h'];rfl)
theorem Q4.fz(h:Q4 T w b x0 x1 x2 x3)(o:Nat):w.frozen? ⟨b,o,none⟩=false:=by have h':w.heap[b]?=_:=h;unfold World.frozen?;rw[h'];simp
theorem Q4.below(h:Q4 T w b x0 x1 x2 x3)(hb:Below w.heap.size w w'):Q4 T w' b x0 x1 x2 x3:=by show _=_;rw[hb.block b h.lt];exact h
theorem Q4.alloc(h:Q4 T w b x0 x1 x2 x3)(o:Obj):Q4 T (w.alloc o) b x0 x1 x2 x3:=h.below (As.alloc nl _)
theorem Q4.new(T:TypeId)(w:WD)(x0 x1 x2 x3:Av):Q4 T (w.alloc (.cells #[x0,x1,x2,x3] T)) w.heap.size x0 x1 x2 x3:=heap_alloc_new w _
end
theorem y9(zs:List BY)(x:BY):Lib.containsS zs x=zs.any (fun z=>decide (x=z)):=by
 rw[Bool.eq_iff_iff,Lib.containsS_iff,List.any_eq_true];constructor
 .intro h;exact⟨x,h,by simp⟩
 .rintro ⟨z,h1,h2⟩;rw[decide_eq_true_eq]at h2;rw[h2];exact h1
theorem stop2(n:Nd):jY [⟨#[59]⟩,⟨#[123]⟩] n=(aS n||aK n):=by
 unfold jY aS aK dN au b1;rw[y9];cases decide (n.t.kind=15)
 .rfl
 .by_cases h1:n.t.word=⟨#[59]⟩<;>by_cases h2:n.t.word=⟨#[123]⟩<;>simp[h1,h2]
theorem stop1(n:Nd):jY [⟨#[123]⟩] n=aK n:=by
 unfold jY aK dN au b1;rw[y9];cases decide (n.t.kind=15)
 .rfl
 .by_cases h2:n.t.word=⟨#[123]⟩<;>simp[h2]
theorem ak5(n:Nd):jY [⟨#[59]⟩] n=aS n:=by
 unfold jY aS dN au b1;rw[y9];cases decide (n.t.kind=15)
 .rfl
 .by_cases h2:n.t.word=⟨#[59]⟩<;>simp[h2]
theorem Rh.val{B:Nat}{w:WD}{c:List Nd×Option Nd×List Nd}{v1 sv v2:Av}(h:Rh B w c v1 sv v2):∃(t:Tok) (ka:Option Addr) (ks:List Nd) (kc:Nat),sv=fB t (.slice ka ks.length kc)/\Sl (fun b=>b<B) w (.slice ka ks.length kc) ks/\(gV c.2.1).isSome=au t (b1 123)/\∀b,gV c.2.1=some b->ks=b:=by
 have h3:=h.stop;cases hc:c.2.1 with
 |none=>rw[hc]at h3;exact⟨_,none,[],0,h3,Sl.nil _ _,rfl,fun b hb=>by cases hb⟩
 |some n=>
  rw[hc]at h3;obtain⟨kv,rfl,hk,_⟩:=h3;obtain⟨ka,kc,rfl⟩:=hk.form;refine⟨n.t,ka,n.kids,kc,rfl,hk,?_,fun b hb=>?_⟩
  .show(if aK n=true then some n.kids else none).isSome=dN n (b1 123);show(if dN n (b1 123)=true then some n.kids else none).isSome=dN n (b1 123);cases dN n (b1 123)<;>rfl
  .unfold gV at hb;simp only at hb;split at hb
   .cases hb;rfl
   .cases hb
structure ak6(B:Nat)(w:WD)(hd:List Nd)(bo:Option (List Nd))(hv bv:Av):Prop where
 head:Sl (fun b=>b<B) w hv hd
 body:∃bl,Sl (fun b=>b<B) w bv bl/\∀b,bo=some b->bl=b
theorem acL.val{L B:Nat}{w:WD}{c:List Nd×Option Nd×List Nd}{v1 sv v2:Av}(h:acL L B w c v1 sv v2):∃(t:Tok) (ka:Option Addr) (ks:List Nd) (kc:Nat),sv=fB t (.slice ka ks.length kc)/\Sl (Rg L B) w (.slice ka ks.length kc) ks/\(gV c.2.1).isSome=au t (b1 123)/\∀b,gV c.2.1=some b->ks=b:=by
 have h3:=h.stop;cases hc:c.2.1 with
 |none=>rw[hc]at h3;exact⟨_,none,[],0,h3,Sl.nil _ _,rfl,fun b hb=>by cases hb⟩
 |some n=>
  rw[hc]at h3;obtain⟨kv,rfl,hk,_⟩:=h3;obtain⟨ka,kc,rfl⟩:=hk.form;refine⟨n.t,ka,n.kids,kc,rfl,hk,?_,fun b hb=>?_⟩
  .show(if aK n=true then some n.kids else none).isSome=dN n (b1 123);show(if dN n (b1 123)=true then some n.kids else none).isSome=dN n (b1 123);cases dN n (b1 123)<;>rfl
  .unfold gV at hb;simp only at hb;split at hb
   .cases hb;rfl
   .cases hb
structure acN(L B:Nat)(w:WD)(hd:List Nd)(bo:Option (List Nd))(hv bv:Av):Prop where
 head:Sl (Rg L B) w hv hd
 body:∃bl,Sl (Rg L B) w bv bl/\∀b,bo=some b->bl=b
theorem Ri(L B:Nat)(n:Nd)(r:List Nd)(v:Av)(w:WD)(h:Sl (Rg L B) w v (n::r))(hB:B<=w.heap.size):
  Calls prog 156 #[v] w fun e w'=>∃hv bv v2,e=.returned (.tuple #[.agg #[.string n.t.word,hv,.bool (gV (bG (fun m=>aS m||aK m) r).2.1).isSome,bv],v2]) /\
   acN L B w' (bG (fun m=>aS m||aK m) r).1 (gV (bG (fun m=>aS m||aK m) r).2.1) hv bv/\Sl (Rg L B) w' v2 (bG (fun m=>aS m||aK m) r).2.2/\Below w.heap.size w w':=by
 have FB:=hid (funext stop2);obtain⟨c,Hc⟩:=Nm (bG (fun m=>aS m||aK m) r);rw[Hc.o];obtain⟨g,o,nv,cap,rfl,hN,hcap⟩:=h.head;obtain⟨a',hr1,hS1⟩:=h.MH;have HS1:=hid hS1;have hgB:g<B:=hN.s.2;have HNC:Hid (∀wx,Below w.heap.size w wx->wx.cell? ⟨g,o+1,none⟩=some (.string n.t.word)):=fun wx hb=>by rw[hb.cell (p:=⟨g,_,none⟩) (show g<w.heap.size by omega)];exact hN.c1
 have FU:=h.len;clear h hS1 hN;have R0:Hid (Q4 130 (w.alloc (.cells #[.string ⟨#[]⟩,.slice none 0 0,.bool false,.slice none 0 0] 130)) w.heap.size (.string ⟨#[]⟩) (.slice none 0 0) (.bool false) (.slice none 0 0)):=Q4.new _ _ _ _ _ _;have B0:Hid (Below w.heap.size w (w.alloc (.cells #[.string ⟨#[]⟩,.slice none 0 0,.bool false,.slice none 0 0] 130))):=As.alloc nl _;go_in;go_upto_region 1 with fail
 have hsz0:=B0.o.size;have hlt0:=R0.o.lt;generalize w.alloc (.cells #[.string ⟨#[]⟩,.slice none 0 0,.bool false,.slice none 0 0] 130)=w0 at *;obtain⟨rb,zV⟩:=Nm w.heap.size;rw[zV.o]at B0 R0 hB hlt0 hsz0 HNC⊢;have S0:=hid (HS1.o.vO B0.o hB);clear HS1;have B1:Hid (Below w0.heap.size w0 (w0.alloc (.cells #[.string ⟨#[59]⟩,.string ⟨#[123]⟩] 9))):=As.alloc nl _;have IE:Hid (∀j,j<2->(w0.alloc (.cells #[.string ⟨#[59]⟩,.string ⟨#[123]⟩] 9)).cell? ⟨w0.heap.size,0+j,none⟩=some (.string ([(⟨#[59]⟩:BY),⟨#[123]⟩].getD j ByteArray.empty))):=by intro j hj;have hh:(w0.alloc (.cells #[.string ⟨#[59]⟩,.string ⟨#[123]⟩] 9)).heap[w0.heap.size]?=_:=heap_alloc_new w0 _;unfold World.cell?;rw[hh];rcases(show j=0\/j=1 by omega)with rfl|rfl<;>rfl
 go_wp2_with fail;have hs1:=B1.o.size;have hlt1:w0.heap.size<(w0.alloc (.cells #[.string ⟨#[59]⟩,.string ⟨#[123]⟩] 9)).heap.size:=by simp
 generalize w0.alloc (.cells #[.string ⟨#[59]⟩,.string ⟨#[123]⟩] 9)=w1 at *;refine(acM L B r _ [⟨#[59]⟩,⟨#[123]⟩] _ w1 (S0.o.vO B1.o oo) oo Aa hlt1 IE.o).mono ?_;rw[FB.o,Hc.o];rintro e w2 ⟨v1,sv,v2,rfl,hcut,hb2⟩;obtain⟨t,ka,ks,kc,rfl,hks,hsome,hbody⟩:=hcut.val;obtain⟨va,vc,rfl⟩:=hcut.ahead.form;obtain⟨ba,bc,rfl⟩:=hcut.behind.form;have B2:=hid (B1.o.trans (hb2.mono hs1));have BW2:=hid (B0.o.trans (B2.o.mono hsz0));have HA:=hid hcut.ahead;have HBH:=hid hcut.behind;have HKS:=hid hks;have HSM:=hid hsome;have VT:=hid hbody
 have R2:Hid (Q4 130 w2 rb (.string ⟨#[]⟩) (.slice none 0 0) (.bool false) (.slice none 0 0)):=by show _=_;rw[B2.o.block rb hlt0];exact R0.o
 have hs2:=B2.o.size;clear hcut hks hsome hbody hb2 S0 IE hlt1 B1;unfold fB;have A3:Hid (VB (w2.alloc (.cells #[.int .i64 t.kind,.string t.word,.string t.unit,.slice ka ks.length kc] 199)).drew w2.heap.size (.int .i64 t.kind) (.string t.word) (.string t.unit) (.slice ka ks.length kc)):=VB.new _ _ _ _ _;have X3:Hid (Below w2.heap.size w2 (w2.alloc (.cells #[.int .i64 t.kind,.string t.word,.string t.unit,.slice ka ks.length kc] 199)).drew):=(As.alloc nl _).drew;go_wp2_with fail;refine wp_region_any An ?_;change wpAny _ _ _ _ _ _ _ (World.drew _);generalize(w2.alloc (.cells #[.int .i64 t.kind,.string t.word,.string t.unit,.slice ka ks.length kc] 199)).drew=w3 at *;obtain⟨gt,mV⟩:=Nm w2.heap.size;have A4:Hid (VB w3 gt (.int .i64 t.kind) (.string t.word) (.string t.unit) (.slice ka ks.length kc)):=by rw[<-mV.o];exact A3.o
 rw[mV.o];have BW3:=hid (BW2.o.trans (X3.o.mono oo));have R3:=hid (R2.o.below X3.o);have HS3:Below rb w w3/\VB w3 gt (.int .i64 t.kind) (.string t.word) (.string t.unit) (.slice ka ks.length kc):=⟨BW3.o,A4.o⟩;have OC:=hid HS3;clear HS3 A3;obtain⟨sb,Hsb⟩:=Nm (au t (b1 123));rw[Hsb.o]at HSM;refine wpAny_of_held (S:=fun wx=>Below rb w wx/\VB wx gt (.int .i64 t.kind) (.string t.word) (.string t.unit) (.slice ka ks.length kc)) _ _ _ _ ?_;refine dH 0 rfl OC.o (fun _ _=>gs) ?_;refine dH 1 rfl OC.o (fun _ _=>gs) ?_
 refine dH 2 rfl OC.o (fun _ _=>gs) ?_;refine dH 3 rfl OC.o (fun _ _=>gs) ?_;refine dH 4 rfl OC.o (by intro w hSw;have q1:=HNC.o w hSw.1;exact gs) ?_;refine dH 5 rfl OC.o (fun _ _=>gs) ?_;refine dH 6 rfl OC.o (by intro w hSw;obtain⟨a0,a1,a2,a3⟩:=hSw.2.cs;exact gs) ?_;refine dH 8 rfl OC.o (by intro w hSw;obtain⟨a0,a1,a2,a3⟩:=hSw.2.cs;exact gs) ?_;refine dH 9 rfl OC.o (by intro w hSw;obtain⟨a0,a1,a2,a3⟩:=hSw.2.cs;exact gs) ?_;refine dH 11 rfl OC.o (fun _ _=>gs) ?_;refine iW 7 fun K hK=>?_;go_simp;refine(jf t _ (b1 123) _).mono ?_;rw[Hsb.o];rintro e w4 ⟨rfl,hb4⟩
 have X4:=hid (Ay X3.o hb4);have BW4:=hid (BW2.o.trans (X4.o.mono oo));have OD:Hid (Below rb w w4/\VB w4 gt (.int .i64 t.kind) (.string t.word) (.string t.unit) (.slice ka ks.length kc)):=⟨BW4.o,A4.o.below hb4⟩;have R4:=hid (R3.o.below hb4);clear hb4 R3 R2;refine hK.o _ _ OD.o (fun _=>?_);clear hK K;refine dH 10 rfl OD.o (fun _ _=>gs) ?_;have z0:=R4.o.fz 0;have z1:=R4.o.fz 1;have z2:=R4.o.fz 2;have z3:=R4.o.fz 3;obtain⟨q0,q1,q2,q3⟩:=R4.o.cs;have hne:gt≠rb:=by have:=mV.o;omega
 have HH5:Hid (Below rb w (qF w4 rb (.string n.t.word) (.slice va c.1.length vc) (.bool sb) (.slice ka ks.length kc))/\VB (qF w4 rb (.string n.t.word) (.slice va c.1.length vc) (.bool sb) (.slice ka ks.length kc)) gt (.int .i64 t.kind) (.string t.word) (.string t.unit) (.slice ka ks.length kc)):=⟨oO BW4.o nl _ _ _ _,by show _=_;rw[jv w4 hne];exact OD.o.2⟩;refine iW 12 fun K hK=>?_;go_simp;refine hK.o _ _ (HH5.o) (fun _=>?_);clear hK K;refine iW 13 fun K hK=>?_;go_simp;refine hK.o _ _ (HH5.o) (fun _=>?_);clear hK K;refine wpAnyH_done An ?_ _;go_wp2_with fail;refine bodyPost_ret (v:=.tuple #[.agg #[.string n.t.word,.slice va c.1.length vc,.bool sb,.slice ka ks.length kc],.slice ba c.2.2.length bc]) (by simp[results,Tryz.results156,go_sem,q0,q1,q2,q3]) rfl ?_
 have hst:∀k,k<B->(qF w4 rb (.string n.t.word) (.slice va c.1.length vc) (.bool sb) (.slice ka ks.length kc)).heap[k]?=w2.heap[k]?:=fun k hk=>by rw[jv w4 oo];exact X4.o.block k oo
 exact⟨_,_,_,by rw[HSM.o],⟨HA.o.keep (fun _ hg=>hg) (fun k hk=>hst k hk.2),ks,HKS.o.keep (fun _ hg=>hg) (fun k hk=>hst k hk.2),VT.o⟩,HBH.o.keep (fun _ hg=>hg) (fun k hk=>hst k hk.2),by rw[zV.o];exact HH5.o.1⟩
theorem acO(B:Nat)(n:Nd)(r:List Nd)(v:Av)(w:WD)(h:Sl (fun b=>b<B) w v (n::r))(hB:B<=w.heap.size):
  Calls prog 156 #[v] w fun e w'=>∃hv bv v2,e=.returned (.tuple #[.agg #[.string n.t.word,hv,.bool (gV (bG (fun m=>aS m||aK m) r).2.1).isSome,bv],v2]) /\
   ak6 B w' (bG (fun m=>aS m||aK m) r).1 (gV (bG (fun m=>aS m||aK m) r).2.1) hv bv/\Sl (fun b=>b<B) w' v2 (bG (fun m=>aS m||aK m) r).2.2/\Below w.heap.size w w':=by
 refine(Ri 0 B n r v w (h.keep (fun _ hb=>⟨Nat.zero_le _,hb⟩) (fun _ _=>rfl)) hB).mono ?_;rintro e w' ⟨hv,bv,v2,h1,h2,h3,h4⟩;obtain⟨bl,b1,b2⟩:=h2.body;exact⟨hv,bv,v2,h1,⟨h2.head.keep (fun _ hb=>hb.2) (fun _ _=>rfl),bl,b1.keep (fun _ hb=>hb.2) (fun _ _=>rfl),b2⟩,h3.keep (fun _ hb=>hb.2) (fun _ _=>rfl),h4⟩
end
section
attribute [local go_sem] bI bJ aX aY
def iY(n:Nd)(r:List Nd):BY×List Nd×Option (List Nd)×List Nd:=
 if n.t.kind=10 then(n.t.word,(bG (fun m=>aS m||aK m) r).1,gV (bG (fun m=>aS m||aK m) r).2.1,(bG (fun m=>aS m||aK m) r).2.2)
 else(aA,(bG aK (n::r)).1,gV (bG aK (n::r)).2.1,(bG aK (n::r)).2.2)
theorem VU(L B:Nat)(n:Nd)(r:List Nd)(v:Av)(w:WD)(h:Sl (Rg L B) w v (n::r))(hB:B<=w.heap.size):
  Calls prog 187 #[v] w fun e w'=>∃hv bv v2,e=.returned (.tuple #[.agg #[.string (iY n r).1,hv,.bool (iY n r).2.2.1.isSome,bv],v2]) /\
   acN L B w' (iY n r).2.1 (iY n r).2.2.1 hv bv/\Sl (Rg L B) w' v2 (iY n r).2.2.2/\Below w.heap.size w w':=by
 obtain⟨g,o,nv,cap,rfl,hN,hcap⟩:=h.head;have HS:=hid h;have hgB:g<B:=hN.s.2;have HNC:Hid (∀wx,Below w.heap.size w wx->wx.cell? ⟨g,o,none⟩=some (.int .i64 n.t.kind)):=fun wx hb=>by rw[hb.cell (p:=⟨g,_,none⟩) (show g<w.heap.size by omega)];exact hN.c0
 have FU:=h.len;clear h hN;have R0:Hid (Q4 130 (w.alloc (.cells #[.string ⟨#[]⟩,.slice none 0 0,.bool false,.slice none 0 0] 130)) w.heap.size (.string ⟨#[]⟩) (.slice none 0 0) (.bool false) (.slice none 0 0)):=Q4.new _ _ _ _ _ _;have B0:Hid (Below w.heap.size w (w.alloc (.cells #[.string ⟨#[]⟩,.slice none 0 0,.bool false,.slice none 0 0] 130))):=As.alloc nl _;go_in;go_upto_region 1 with fail
 have hsz0:=B0.o.size;have hlt0:=R0.o.lt;generalize w.alloc (.cells #[.string ⟨#[]⟩,.slice none 0 0,.bool false,.slice none 0 0] 130)=w0 at *;obtain⟨rb,zV⟩:=Nm w.heap.size;rw[zV.o]at B0 R0 hB hlt0 hsz0 HNC⊢;have S0:=hid (HS.o.vO B0.o hB);have c0:=HNC.o w0 B0.o;clear HS;cases hk:(n.t.kind==10)
 .have hk':¬n.t.kind=10:=by simpa using hk
  obtain⟨c,Hc⟩:=Nm (bG aK (n::r));have HO:Hid (iY n r=(aA,c.1,gV c.2.1,c.2.2)):=by show _=_;unfold iY;rw[if_neg hk',Hc.o]
  have FB:=hid (funext stop1);clear hk';have B1:Hid (Below w0.heap.size w0 (w0.alloc (.cells #[.string ⟨#[123]⟩] 9))):=As.alloc nl _;have IE:Hid (∀j,j<1->(w0.alloc (.cells #[.string ⟨#[123]⟩] 9)).cell? ⟨w0.heap.size,0+j,none⟩=some (.string ([(⟨#[123]⟩:BY)].getD j ByteArray.empty))):=by intro j hj;have hh:(w0.alloc (.cells #[.string ⟨#[123]⟩] 9)).heap[w0.heap.size]?=_:=heap_alloc_new w0 _;unfold World.cell?;rw[hh];obtain rfl:j=0:=oo;rfl
  go_wp2_with fail;have hs1:=B1.o.size;have hlt1:w0.heap.size<(w0.alloc (.cells #[.string ⟨#[123]⟩] 9)).heap.size:=by simp
  generalize w0.alloc (.cells #[.string ⟨#[123]⟩] 9)=w1 at *;refine(acM L B (n::r) _ [⟨#[123]⟩] _ w1 (S0.o.vO B1.o oo) oo Aa hlt1 IE.o).mono ?_;rw[FB.o,Hc.o];rintro e w2 ⟨v1,sv,v2,rfl,hcut,hb2⟩;obtain⟨t,ka,ks,kc,rfl,hks,hsome,hbody⟩:=hcut.val;obtain⟨va,vc,rfl⟩:=hcut.ahead.form;obtain⟨ba,bc,rfl⟩:=hcut.behind.form;have B2:=hid (B1.o.trans (hb2.mono hs1));have BW2:=hid (B0.o.trans (B2.o.mono hsz0));have HA:=hid hcut.ahead;have HBH:=hid hcut.behind;have HKS:=hid hks;have HSM:=hid hsome;have VT:=hid hbody
  have R2:Hid (Q4 130 w2 rb (.string ⟨#[]⟩) (.slice none 0 0) (.bool false) (.slice none 0 0)):=by show _=_;rw[B2.o.block rb hlt0];exact R0.o
  have hs2:=B2.o.size;clear hcut hks hsome hbody hb2 S0 IE hlt1 B1 c0;unfold fB;have A3:Hid (VB (w2.alloc (.cells #[.int .i64 t.kind,.string t.word,.string t.unit,.slice ka ks.length kc] 199)).drew w2.heap.size (.int .i64 t.kind) (.string t.word) (.string t.unit) (.slice ka ks.length kc)):=VB.new _ _ _ _ _;have X3:Hid (Below w2.heap.size w2 (w2.alloc (.cells #[.int .i64 t.kind,.string t.word,.string t.unit,.slice ka ks.length kc] 199)).drew):=(As.alloc nl _).drew;go_wp2_with fail;refine wp_region_any An ?_;change wpAny _ _ _ _ _ _ _ (World.drew _);generalize(w2.alloc (.cells #[.int .i64 t.kind,.string t.word,.string t.unit,.slice ka ks.length kc] 199)).drew=w3 at *;obtain⟨gt,mV⟩:=Nm w2.heap.size
  have A4:Hid (VB w3 gt (.int .i64 t.kind) (.string t.word) (.string t.unit) (.slice ka ks.length kc)):=by rw[<-mV.o];exact A3.o
  rw[mV.o];have R3:=hid (R2.o.below X3.o);clear A3;obtain⟨sb,Hsb⟩:=Nm (au t (b1 123));rw[Hsb.o]at HSM;refine wpAny_of_held (S:=fun wx=>VB wx gt (.int .i64 t.kind) (.string t.word) (.string t.unit) (.slice ka ks.length kc)) _ _ _ _ ?_;refine dH 0 rfl A4.o (fun _ _=>gs) ?_;refine dH 1 rfl A4.o (by intro w hSw;obtain⟨a0,a1,a2,a3⟩:=hSw.cs;exact gs) ?_;refine dH 3 rfl A4.o (by intro w hSw;obtain⟨a0,a1,a2,a3⟩:=hSw.cs;exact gs) ?_;refine dH 4 rfl A4.o (by intro w hSw;obtain⟨a0,a1,a2,a3⟩:=hSw.cs;exact gs) ?_;refine dH 6 rfl A4.o (fun _ _=>gs) ?_;refine iW 2 fun K hK=>?_;go_simp
  refine(jf t _ (b1 123) _).mono ?_;rw[Hsb.o];rintro e w4 ⟨rfl,hb4⟩;have X4:=hid (Ay X3.o hb4);have BW4:=hid (BW2.o.trans (X4.o.mono oo));have A5:=hid (A4.o.below hb4);have R4:=hid (R3.o.below hb4);clear hb4 R3 R2;refine hK.o _ _ A5.o (fun _=>?_);clear hK K;refine dH 5 rfl A5.o (fun _ _=>gs) ?_;have z0:=R4.o.fz 0;have z1:=R4.o.fz 1;have z2:=R4.o.fz 2;have z3:=R4.o.fz 3;obtain⟨q0,q1,q2,q3⟩:=R4.o.cs;have hne:gt≠rb:=by have:=mV.o;omega
  have HB5:Hid (Below rb w (qF w4 rb (.string ⟨#[]⟩) (.slice va c.1.length vc) (.bool sb) (.slice ka ks.length kc))):=oO BW4.o nl _ _ _ _;have A6:Hid (VB (qF w4 rb (.string ⟨#[]⟩) (.slice va c.1.length vc) (.bool sb) (.slice ka ks.length kc)) gt (.int .i64 t.kind) (.string t.word) (.string t.unit) (.slice ka ks.length kc)):=by show _=_;rw[jv w4 hne];exact A5.o
  refine iW 7 fun K hK=>?_;go_simp;refine hK.o _ _ (A6.o) (fun _=>?_);clear hK K;refine iW 8 fun K hK=>?_;go_simp;refine hK.o _ _ (A6.o) (fun _=>?_);clear hK K;refine wpAnyH_done An ?_ _;go_wp2_with fail;refine bodyPost_ret (v:=.tuple #[.agg #[.string ⟨#[]⟩,.slice va c.1.length vc,.bool sb,.slice ka ks.length kc],.slice ba c.2.2.length bc]) (by simp[results,Tryz.results187,go_sem,q0,q1,q2,q3]) rfl ?_;have hst:∀k,k<B->(qF w4 rb (.string ⟨#[]⟩) (.slice va c.1.length vc) (.bool sb) (.slice ka ks.length kc)).heap[k]?=w2.heap[k]?:=fun k hk=>by rw[jv w4 oo];exact X4.o.block k oo
  rw[HO.o];exact⟨_,_,_,by rw[HSM.o];rfl,⟨HA.o.keep (fun _ hg=>hg) (fun k hk=>hst k hk.2),ks,HKS.o.keep (fun _ hg=>hg) (fun k hk=>hst k hk.2),VT.o⟩,HBH.o.keep (fun _ hg=>hg) (fun k hk=>hst k hk.2),by rw[zV.o];exact HB5.o⟩
 .have hk':n.t.kind=10:=by simpa using hk
  obtain⟨c,Hc⟩:=Nm (bG (fun m=>aS m||aK m) r);have HO:Hid (iY n r=(n.t.word,c.1,gV c.2.1,c.2.2)):=by show _=_;unfold iY;rw[if_pos hk',Hc.o]
  clear hk';go_wp2_with fail;refine(Ri L B n r _ w0 S0.o oo).mono ?_;rw[Hc.o];rintro e w2 ⟨hv,bv,v2,rfl,Rj,hbh,hb2⟩;obtain⟨va,vc,rfl⟩:=Rj.head.form;obtain⟨bl,hbl,hbe⟩:=Rj.body;obtain⟨ka,kc,rfl⟩:=hbl.form;obtain⟨ba,bc,rfl⟩:=hbh.form;obtain⟨sb,Hsb⟩:=Nm ((gV c.2.1).isSome);rw[Hsb.o];have BW2:=hid (B0.o.trans (hb2.mono hsz0));have HA:=hid Rj.head;have HBH:=hid hbh;have HKS:=hid hbl;have VT:=hid hbe;have R2:=hid (R0.o.below hb2);clear Rj hbl hbe hbh hb2 S0 c0;have z0:=R2.o.fz 0;have z1:=R2.o.fz 1;have z2:=R2.o.fz 2;have z3:=R2.o.fz 3
  obtain⟨q0,q1,q2,q3⟩:=R2.o.cs;go_wp2_with fail;refine bodyPost_ret (v:=.tuple #[.agg #[.string n.t.word,.slice va c.1.length vc,.bool sb,.slice ka bl.length kc],.slice ba c.2.2.length bc]) (by simp[results,Tryz.results187,go_sem,q0,q1,q2,q3]) rfl ?_;have hst:∀k,k<B->(qF w2 rb (.string n.t.word) (.slice va c.1.length vc) (.bool sb) (.slice ka bl.length kc)).heap[k]?=w2.heap[k]?:=fun k hk=>jv w2 oo _ _ _ _;rw[HO.o];exact⟨_,_,_,by rw[Hsb.o],⟨HA.o.keep (fun _ hg=>hg) (fun k hk=>hst k hk.2),bl,HKS.o.keep (fun _ hg=>hg) (fun k hk=>hst k hk.2),VT.o⟩,HBH.o.keep (fun _ hg=>hg) (fun k hk=>hst k hk.2),by rw[zV.o];exact oO BW2.o nl _ _ _ _⟩
end
section
attribute [local go_sem] bI bJ aX aY
theorem jF(st:Nd->Bool):∀(l:List Nd),(bG st l).2.2.length<=l.length-1
 |[]=>by simp[bG]
 |n::r=>by
  unfold bG;split
  .simp
  .have:=jF st r;simp only[List.length_cons];show(bG st r).2.2.length<=_;omega
theorem xQ(sh:Bool):∀(f g:Nat) (l:List Nd),l.length<=f->l.length<=g->fM f sh l=fM g sh l:=by
 intro f;induction f with
 |zero=>intro g l hf hg;obtain rfl:l=[]:=List.eq_nil_of_length_eq_zero oo;cases g<;>rfl
 |succ f ih=>
  intro g l hf hg;cases l with
  |nil=>cases g<;>rfl
  |cons n r=>
   cases g with
   |zero=>simp at hg
   |succ g=>
    simp only[List.length_cons]at hf hg;unfold fM;dsimp only
    have h1:=jF (fun m=>aS m||aK m) r;have h2:=jF aK (n::r);simp only[List.length_cons]at h2;rw[ih g r oo oo,ih g (bG (fun m=>aS m||aK m) r).2.2 oo oo,ih g (bG aK (n::r)).2.2 oo oo]
theorem VW{sh:Bool}{n:Nd}{r:List Nd}(h:oG sh n=true):rules sh (n::r)=rules sh r:=by
 unfold rules;show fM (r.length+1) sh (n::r)=_;conv=>lhs;unfold fM
 rw[if_pos h]
theorem vP(st:Nd->Bool):∀(l:List Nd) (b:Nd),(bG st l).2.1=some b->st b=true
 |[],b,h=>by simp[bG]at h
 |n::r,b,h=>by
  unfold bG at h;split at h
  .simp at h;subst h;assumption
  .exact vP st r b h
theorem Na(st:Nd->Bool):∀(l:List Nd),(bG st l).2.1=none->(bG st l).2.2=[]
 |[],_=>by simp[bG]
 |n::r,h=>by
  unfold bG at h⊢;split at h
  .simp at h
  .rename_i hq;rw[if_neg hq];exact Na st r h
def nM(o:BY×List Nd×Option (List Nd)×List Nd):List Rule:=
 if o.1=aA then(match o.2.2.1 with|none=>[]|some b=>[⟨none,o.2.1,some b⟩]) else [⟨some o.1,o.2.1,o.2.2.1⟩]
theorem aao{sh:Bool}{n:Nd}{r:List Nd}(h:oG sh n=false)(hn:n.t.kind=10->n.t.word≠aA):rules sh (n::r)=nM (iY n r)++rules sh (iY n r).2.2.2:=by
 have h1:=jF (fun m=>aS m||aK m) r;have h2:=jF aK (n::r);simp only[List.length_cons]at h2;unfold rules;show fM (r.length+1) sh (n::r)=_;conv=>lhs;unfold fM
 rw[if_neg (by rw[h];simp)];by_cases hk:n.t.kind=10
 .rw[if_pos hk];unfold iY nM;rw[if_pos hk];simp only;rw[if_neg (hn hk),xQ sh r.length _ _ oo nl];rfl
 .rw[if_neg hk];unfold iY nM;rw[if_neg hk];simp only[if_true];cases hc:(bG aK (n::r)).2.1 with
  |none=>rw[Na _ _ hc];rfl
  |some b=>
   have hb:=vP _ _ _ hc;show(⟨none,_,some b.kids⟩:Rule)::_=(match (if aK b=true then some b.kids else none)with|none=>[]|some q=>[(⟨none,_,some q⟩:Rule)])++_;rw[if_pos hb,xQ sh r.length _ _ oo nl];rfl
def dB:wV Rule:=fun S w r cs=>∃hv bv bl,cs=[.string (r.at_.getD aA),hv,.bool r.body.isSome,bv]/\Sl S w hv r.head/\Sl S w bv bl/\(∀b,r.body=some b->bl=b)/\(∀x,r.at_=some x->x≠aA/\x.size<=4000000)
theorem dB.fair:Fair dB:=by rintro S S' w w' r cs hS hw ⟨hv,bv,bl,h1,h2,h3,h4,h5⟩;exact⟨hv,bv,bl,h1,h2.keep hS hw,h3.keep hS hw,h4,h5⟩
theorem dB.sized:ug dB 4:=by rintro S w r cs ⟨hv,bv,bl,rfl,_⟩;rfl
theorem aje{α:Type}{C:wV α}{sz:Nat}(hF:Fair C)(hZ:ug C sz){T:TypeId}{base:Nat}{w:WD}{v:Av}{l:List α}{cs:List Av}{S:Nat->Prop}(h1:w.ownsRow base T sz v l.length cs)(h2:jC C S w l cs)(hS:∀g,S g->g<w.heap.size)(h6:l.length<=2097152):SG C sz (fun b=>b<w.heap.size) w v l:=by
 have h3:jC C (fun b=>b<w.heap.size) w l cs:=h2.keep hF hS (fun _ _=>rfl);rcases h1.2 with⟨rfl,hn⟩|⟨g,cap,cur,rfl,hbg,hg,hnc,hrest⟩
 .have:l=[]:=List.eq_nil_of_length_eq_zero hn;subst this;exact SG.iE _ _ _ _ _ _
 .refine⟨_,cap,rfl,⟨hnc,h6⟩,fun _=>⟨g,0,rfl,jC.lies (S:=fun b=>b<w.heap.size) hZ (Ax hg) l cs 0 h3 fun j u hu=>?_⟩⟩;have:=h1.cells (g:=g) rfl j u hu;rw[Addr.add_lit,Nat.zero_add]at this;rw[Nat.zero_add];exact this
theorem aap:∃i,prog.info? 130=some i/\i.zero=some (.agg #[.string ⟨#[]⟩,.slice none 0 0,.bool false,.slice none 0 0])/\i.size=4/\i.bytes=72:=info_parts An
structure RaI(B:Nat)(sh:Bool)(w:WD)(l:List Nd)(u:Av)(acc:List Rule)(cs:List Av)(cv:Av)(cur:List Nd)(wr:WD):Prop where
 row:wr.ownsRow w.heap.size 130 4 u acc.length cs
 cat:jC dB (fun b=>b<B) wr acc cs
 now:Sl (fun b=>b<B) wr cv cur
 below:Below w.heap.size w wr
 eq:rules sh l=acc++rules sh cur
 ln:acc.length+cur.length<=l.length
end
