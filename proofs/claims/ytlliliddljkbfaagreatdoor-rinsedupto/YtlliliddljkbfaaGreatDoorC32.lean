import Derived.Test.YtlliliddljkbfaaGreatDoorC1
import Derived.Test.YtlliliddljkbfaaGreatDoorC2
import Derived.Test.YtlliliddljkbfaaGreatDoorC8
import Derived.Test.YtlliliddljkbfaaGreatDoorC31
namespace Go.Proofs.YtlliliddljkbfaaGreatDoor
set_option maxHeartbeats 64000000
set_option maxRecDepth 100000
open Go.Proofs.Tryz (prog)
open Go.RowKit Sp
section
attribute [local go_sem] dH dI bQ bT
def stB(s:ByteArray):Bool:=decide (s=zq\/s=su\/s=zu\/s=sD)
theorem abK(s:ByteArray):stB s=((s.toList==[114,111,111,116])||(s.toList==[102,105,114,115,116,45,99,104,105,108,100])||(s.toList==[108,97,115,116,45,99,104,105,108,100])||(s.toList==[101,109,112,116,121])):=by simp only[aH];unfold stB zq su zu sD;simp only[Bool.decide_or,Bool.or_assoc]
theorem Ue(s:ByteArray)(w:World):Calls prog 306 #[.string s] w fun e w'=>e=.returned (.bool (stB s))/\w'=w:=by
 have HV:Hid (stB s=((s.toList==[114,111,111,116])||(s.toList==[102,105,114,115,116,45,99,104,105,108,100])||(s.toList==[108,97,115,116,45,99,104,105,108,100])||(s.toList==[101,109,112,116,121]))):=abK s;cases h1:(s.toList==[114,111,111,116])
 .cases h2:(s.toList==[102,105,114,115,116,45,99,104,105,108,100])
  .cases h3:(s.toList==[108,97,115,116,45,99,104,105,108,100])
   .cases h4:(s.toList==[101,109,112,116,121])
    .rw[h1,h2,h3,h4]at HV;go_in;go_wp2_with fail;go_ret;exact⟨aI HV.o.symm,rfl⟩
    .rw[h1,h2,h3,h4]at HV;go_in;go_wp2_with fail;go_ret;exact⟨aI HV.o.symm,rfl⟩
   .rw[h1,h2,h3]at HV;go_in;go_wp2_with fail;go_ret;exact⟨aI HV.o.symm,rfl⟩
  .rw[h1,h2]at HV;go_in;go_wp2_with fail;go_ret;exact⟨aI HV.o.symm,rfl⟩
 .rw[h1]at HV;go_in;go_wp2_with fail;go_ret;exact⟨aI HV.o.symm,rfl⟩
theorem WV{v:Nat}(h:999<v)(l:List UInt8):jR v l=none:=by
 cases l with
 |nil=>unfold jR;rw[if_neg oo]
 |cons c r=>unfold jR;rw[if_neg oo]
theorem RH{s:ByteArray}{i:Nat}(h:i<s.size):pk s i=((s.data.toList[i]'(by simpa using h)).toNat:Int):=by rw[Iy h];rfl
theorem J6(s:ByteArray)(w:World)(hs:s.size<=4000000):
  Calls prog 314 #[.string s] w fun e w'=>(jR 0 s.data.toList=none/\e=.returned (.tuple #[.int .i64 0,.bool false])\/∃v:Nat,jR 0 s.data.toList=some v/\e=.returned (.tuple #[.int .i64 (v:Int),.bool true]))/\w'=w:=by
 have hdl:s.data.toList.length=s.size:=by simp
 go_in;go_wp2_with fail;go_loopg[4,8] s.size (fun g v4 v8 wr=>∃(n i:Nat),v4=.int .i64 (n:Int)/\v8=.int .i64 (i:Int)/\i+g=s.size/\n<=999/\Aside (jR 0 s.data.toList=jR n (s.data.toList.drop i)/\w=wr));case atStart=>exact⟨0,0,rfl,rfl,oo,oo,by simp,rfl⟩
 case round=>
  obtain⟨n,i,rfl,rfl,hi,hn,hA⟩:=hrel;have HE:Hid (jR 0 s.data.toList=jR n (s.data.toList.drop i)):=hA.o.1;obtain rfl:=hA.o.2;clear hA;by_cases hlt:i<s.size
  .have h1:(i:Int)<(s.size:Int):=oo;have hix:=aV s i hlt;have hp0:=QL s i;have hp1:=D7 s i;have HD:Hid (jR n (s.data.toList.drop i)=if 48<=(pk s i).toNat/\(pk s i).toNat<=57/\n<=999 then jR (10*n+(pk s i).toNat-48) (s.data.toList.drop (i+1)) else none):=by
    show _=_;rw[List.drop_eq_getElem_cons (by rw[hdl];exact hlt),RH hlt];rfl
   have hpp:0<=pk s i:=tV hlt;obtain⟨c,Hc⟩:∃c,Hid (pk s i=c):=⟨_,hid rfl⟩;rw[Hc.o]at hix hp0 hp1 HD hpp;by_cases h48:c<48
   .have HN:Hid (jR 0 s.data.toList=none):=by
     show _=_;rw[HE.o,HD.o,if_neg oo]
    clear HD;go_wp2_with fail;go_ret2
    exact⟨.inl ⟨HN.o,rfl⟩,rfl⟩
   .by_cases h57:57<c
    .have HN:Hid (jR 0 s.data.toList=none):=by
      show _=_;rw[HE.o,HD.o,if_neg oo]
     clear HD;go_wp2_with fail;go_ret2
     exact⟨.inl ⟨HN.o,rfl⟩,rfl⟩
    .obtain⟨k,rfl⟩:∃k:Nat,c=48+k:=⟨(c-48).toNat,oo⟩;have hk9:k<=9:=oo;have HN:Hid (jR 0 s.data.toList=jR (10*n+k) (s.data.toList.drop (i+1))):=by
      show _=_;rw[HE.o,HD.o,if_pos oo];congr 1
      omega
     have hw1:IntKind.u8.wrap (48+(k:Int)-48)=(k:Int):=by rw[show(48+(k:Int)-48)=(k:Int) from by omega];rw[IntKind.wrap_u8];omega
     clear HD HE hp0 hp1 hpp Hc;by_cases hbig:999<n*10+k
     .have hb2:(999:Int)<(n:Int)*10+(k:Int):=oo;have HB:Hid (jR 0 s.data.toList=none):=by
       show _=_;rw[HN.o,WV oo]
      clear HN;go_wp2_with fail;go_ret2
      exact⟨.inl ⟨HB.o,rfl⟩,rfl⟩
     .have hb2:(n:Int)*10+(k:Int)<=999:=oo;go_wp2_with fail;go_roundg(s.size-(i+1));case measure=>omega
      case rel=>exact⟨n*10+k,i+1,by congr 1,by congr 1,oo,oo,by rw[HN.o,Nat.mul_comm],rfl⟩
  .have h1:(s.size:Int)<=(i:Int):=oo;have HN:Hid (jR 0 s.data.toList=some n):=by
    show _=_;rw[HE.o,List.drop_of_length_le (by rw[hdl];omega)];unfold jR;rw[if_pos hn]
   clear HE;go_wp2_with fail;go_ret2
   exact⟨.inr ⟨n,HN.o,rfl⟩,rfl⟩
end
section
attribute [local go_sem] dH dI bQ bT
def Am(t:Tok):Bool:=decide (t.kind=4)||ay t (b1 46)||ay t (b1 91)||ay t (b1 58)
theorem Ij(B b:Nat)(sv:Value)(l:List Nd)(w:World)(h:iw B w b sv l):
  Calls prog 250 #[.pointer (some ⟨b,0,none⟩)] w fun e w'=>e=.returned (.bool (Am (hdN l).t))/\Below w.heap.size w w':=by
 have R1:Hid (iw B w b sv l):=h;clear h;obtain⟨n,Hn⟩:∃n,Hid (hdN l=n):=⟨_,hid rfl⟩;rw[Hn.o];go_in;go_wp2_with fail;refine(Ef B b sv l _ R1.o).mono ?_;rw[Hn.o];rintro e w1 ⟨kv,rfl,hk,hb1⟩;have B1:Hid (Below w.heap.size w w1):=hb1;obtain⟨ka,kc,rfl⟩:=hk.form;have hw1:=hb1.size;clear hk hb1;unfold dM;have A2:Hid (VB (w1.alloc (.cells #[.int .i64 n.t.kind,.string n.t.word,.string n.t.unit,.slice ka n.kids.length kc] 168)) w1.heap.size (.int .i64 n.t.kind) (.string n.t.word) (.string n.t.unit) (.slice ka n.kids.length kc)):=VB.new _ _ _ _ _;have B2:Hid (Below w.heap.size w (w1.alloc (.cells #[.int .i64 n.t.kind,.string n.t.word,.string n.t.unit,.slice ka n.kids.length kc] 168))):=B1.o.alloc hw1 _;go_upto_region 2 with fail
 generalize w1.alloc (.cells #[.int .i64 n.t.kind,.string n.t.word,.string n.t.unit,.slice ka n.kids.length kc] 168)=w2 at *;generalize w1.heap.size=gt at *;obtain⟨a0,a1,a2,a3⟩:=A2.o.cs;have hs2:=B2.o.size;cases hk4:(n.t.kind==4)
 .have n4:¬n.t.kind=4:=by simpa using hk4
  go_wp2_with fail;refine pmb (jU n.t _ (b1 46) _) fun w3 hb3=>?_;have B3:Hid (Below w.heap.size w w3):=B2.o.trans (hb3.mono hs2);have A3:Hid (VB w3 gt (.int .i64 n.t.kind) (.string n.t.word) (.string n.t.unit) (.slice ka n.kids.length kc)):=A2.o.below hb3;have hs3:=B3.o.size;clear hb3 a0 a1 a2 a3;obtain⟨a0,a1,a2,a3⟩:=A3.o.cs;obtain⟨s1,DW⟩:∃s,Hid (ay n.t (b1 46)=s):=⟨_,hid rfl⟩;rw[DW.o];cases s1
  .go_wp2_with fail;refine pmb (jU n.t _ (b1 91) _) fun w4 hb4=>?_;have B4:Hid (Below w.heap.size w w4):=B3.o.trans (hb4.mono hs3);have A4:Hid (VB w4 gt (.int .i64 n.t.kind) (.string n.t.word) (.string n.t.unit) (.slice ka n.kids.length kc)):=A3.o.below hb4;have hs4:=B4.o.size;clear hb4 a0 a1 a2 a3;obtain⟨a0,a1,a2,a3⟩:=A4.o.cs;obtain⟨s2,Ud⟩:∃s,Hid (ay n.t (b1 91)=s):=⟨_,hid rfl⟩;rw[Ud.o];cases s2
   .go_wp2_with fail;refine pmb (jU n.t _ (b1 58) _) fun w5 hb5=>?_;have B5:Hid (Below w.heap.size w w5):=B4.o.trans (hb5.mono hs4);have HV:Hid (Am n.t=ay n.t (b1 58)):=by show _=_;unfold Am;rw[decide_eq_false n4,DW.o,Ud.o];rfl
    clear hb5;go_wp2_with fail;go_ret;exact⟨aI HV.o.symm,B5.o⟩
   .have HV:Hid (Am n.t=true):=by show _=_;unfold Am;rw[Ud.o];simp
    go_wp2_with fail;go_ret;exact⟨aI HV.o.symm,B4.o⟩
  .have HV:Hid (Am n.t=true):=by show _=_;unfold Am;rw[DW.o];simp
   go_wp2_with fail;go_ret;exact⟨aI HV.o.symm,B3.o⟩
 .have n4:n.t.kind=4:=by simpa using hk4
  have HV:Hid (Am n.t=true):=by show _=_;unfold Am;rw[decide_eq_true n4];rfl
  clear n4;go_wp2_with fail;go_ret;exact⟨aI HV.o.symm,B2.o⟩
def jE(k:Nat)(nm h v:ByteArray)(lv:Value)(p:Nat):Value:=
 if k=116 then(if nm=aA then .iface 303 (.agg #[]) else .iface 301 (.agg #[.string nm]))
 else if k=35 then .iface 324 (.agg #[.string nm])
 else if k=46 then .iface 325 (.agg #[.string nm])
 else if k=91 then .iface 343 (.agg #[.string nm,.string h,.string v])
 else if nm=lg then .iface 347 (.agg #[lv])
 else if nm=xB then .iface 348 (.agg #[lv])
 else if nm=iR then .iface 357 (if p=0 then .agg #[.string qC,.int .i64 0] else if p=1 then .agg #[.string kH,.int .i64 0] else .agg #[.string aA,.int .i64 ((p-2:Nat):Int)])
 else .iface 345 (.agg #[.string nm])
def kU(C:ug Simple):ug Step:=fun S w x cs=>∃av,cs=[.int .i64 (Ja x.1),av]/\SG C 1 S w av x.2
def KN(C:ug Simple):ug (List Step):=One (kU C) 2
def dF:Nat->ug Simple
 |0=>fun _ _ s cs=>match s with|.mk k nm h v l p=>l=[]/\∃a c,cs=[jE k nm h v (.slice a 0 c) p]
 |n+1=>fun S w s cs=>match s with|.mk k nm h v l p=>∃lv,cs=[jE k nm h v lv p]/\SG (KN (dF n)) 1 S w lv l
theorem kU.fair{C:ug Simple}(hF:Fair C):Fair (kU C):=by rintro S S' w w' x cs hS hw ⟨av,h1,h2⟩;exact⟨av,h1,h2.keep hF hS hw⟩
theorem dF.fair:∀n,Fair (dF n)
 |0=>by rintro S S' w w' ⟨k,nm,h,v,l,p⟩ cs _ _ hx;exact hx
 |n+1=>by rintro S S' w w' ⟨k,nm,h,v,l,p⟩ cs hS hw ⟨lv,h1,h2⟩;exact⟨lv,h1,h2.keep (One.fair (kU.fair (dF.fair n))) hS hw⟩
theorem dF.sized:∀n,qG (dF n) 1
 |0=>by rintro S w ⟨k,nm,h,v,l,p⟩ cs ⟨_,a,c,rfl⟩;rfl
 |n+1=>by rintro S w ⟨k,nm,h,v,l,p⟩ cs ⟨lv,rfl,_⟩;rfl
theorem kU.sized(C:ug Simple):qG (kU C) 2:=by rintro S w x cs ⟨av,rfl,_⟩;rfl
theorem dF.plain(n:Nat)(S:Nat->Prop)(w:World)(k:Nat)(nm h v:ByteArray)(p:Nat):dF n S w (.mk k nm h v [] p) [jE k nm h v (.slice none 0 0) p]:=by
 cases n with
 |zero=>exact⟨rfl,_,_,rfl⟩
 |succ n=>exact⟨_,rfl,SG.iG _ _ _ _ _ _⟩
end
section
theorem ZJ(b:Nat)(w:World):Calls prog 244 #[.int .i64 (Ja b)] w fun e w'=>e=.returned (.string (kX b))/\w'=w:=by
 unfold Ja kX;by_cases h1:b=32
 .rw[if_pos h1,if_pos h1];go_in;go_wp2_with fail;go_ret;exact⟨rfl,rfl⟩
 rw[if_neg h1,if_neg h1];by_cases h2:b=62
 .rw[if_pos h2,if_pos (.inl h2)];subst h2;clear h1;go_in;go_wp2_with fail;go_ret;exact⟨rfl,rfl⟩
 rw[if_neg h2];by_cases h3:b=43
 .rw[if_pos h3,if_pos (.inr (.inl h3))];subst h3;clear h1 h2;go_in;go_wp2_with fail;go_ret;exact⟨rfl,rfl⟩
 rw[if_neg h3];by_cases h4:b=126
 .rw[if_pos h4,if_pos (.inr (.inr h4))];subst h4;clear h1 h2 h3;go_in;go_wp2_with fail;go_ret;exact⟨rfl,rfl⟩
 rw[if_neg h4,if_neg (by rintro (h|h|h)<;>omega)];clear h1 h2 h3 h4;go_in;go_wp2_with fail;go_ret;exact⟨rfl,rfl⟩
theorem ZK(w:World):Calls prog 342 #[.agg #[]] w fun e w'=>e=.returned (.string (b1 42))/\Below w.heap.size w w':=by go_in;go_wp2_with fail;go_ret;exact⟨rfl,by first|exact Below.refl _ _|exact bI _ _⟩
section
variable (nm:ByteArray) (w:World)
theorem abL(hs:nm.size<=4000000):Calls prog 336 #[.agg #[.string nm]] w fun e w'=>e=.returned (.string (bC nm))/\Below w.heap.size w w':=by have B1:Hid (Below w.heap.size w (w.alloc (.cells #[.string nm] 301))):=bI _ _;go_in;go_wp2_with fail;generalize w.alloc (.cells #[.string nm] 301)=w2 at *;refine pmb (oC nm _ hs) fun w3 hb3=>?_;have B3:Hid (Below w.heap.size w w3):=B1.o.trans (hb3.mono B1.o.size);clear hb3;go_wp2_with fail;go_ret;exact⟨rfl,B3.o⟩
theorem adx(hs:nm.size<=4000000):Calls prog 345 #[.agg #[.string nm]] w fun e w'=>e=.returned (.string (b1 35++bC nm))/\Below w.heap.size w w':=by
 have B1:Hid (Below w.heap.size w (w.alloc (.cells #[.string nm] 324))):=bI _ _;obtain⟨o,Ho⟩:∃o,Hid (bC nm=o):=⟨_,hid rfl⟩;have HV:Hid (aB [⟨#[35]⟩,o]=b1 35++bC nm):=by show _=_;rw[Ho.o];simp[aB,b1]
 have hsz:o.size<=4*nm.size:=by rw[<-Ho.o];exact bZ nm
 go_in;go_wp2_with fail;generalize w.alloc (.cells #[.string nm] 324)=w2 at *;refine(oC nm _ hs).mono ?_;rw[Ho.o];rintro e w3 ⟨rfl,hb3⟩;have B3:Hid (Below w.heap.size w w3):=B1.o.trans (hb3.mono B1.o.size);have hs3:=B3.o.size;clear hb3;go_wp2_with fail;refine pmb (eG [⟨#[35]⟩,o] w3.heap.size _ _ (Zf w3 ⟨#[35]⟩ o) (by simp) (by show 1+(o.size+0)<=_;omega)) fun w5 hb5=>?_;have B5:Hid (Below w.heap.size w w5):=(B3.o.alloc hs3 _).trans (hb5.mono (by simp;omega));clear hb5;go_wp2_with fail;go_ret;exact⟨iW HV.o,B5.o⟩
theorem WW(hs:nm.size<=4000000):Calls prog 349 #[.agg #[.string nm]] w fun e w'=>e=.returned (.string (b1 46++bC nm))/\Below w.heap.size w w':=by
 have B1:Hid (Below w.heap.size w (w.alloc (.cells #[.string nm] 325))):=bI _ _;obtain⟨o,Ho⟩:∃o,Hid (bC nm=o):=⟨_,hid rfl⟩;have HV:Hid (aB [⟨#[46]⟩,o]=b1 46++bC nm):=by show _=_;rw[Ho.o];simp[aB,b1]
 have hsz:o.size<=4*nm.size:=by rw[<-Ho.o];exact bZ nm
 go_in;go_wp2_with fail;generalize w.alloc (.cells #[.string nm] 325)=w2 at *;refine(oC nm _ hs).mono ?_;rw[Ho.o];rintro e w3 ⟨rfl,hb3⟩;have B3:Hid (Below w.heap.size w w3):=B1.o.trans (hb3.mono B1.o.size);have hs3:=B3.o.size;clear hb3;go_wp2_with fail;refine pmb (eG [⟨#[46]⟩,o] w3.heap.size _ _ (Zf w3 ⟨#[46]⟩ o) (by simp) (by show 1+(o.size+0)<=_;omega)) fun w5 hb5=>?_;have B5:Hid (Below w.heap.size w w5):=(B3.o.alloc hs3 _).trans (hb5.mono (by simp;omega));clear hb5;go_wp2_with fail;go_ret;exact⟨iW HV.o,B5.o⟩
theorem WX(hs:nm.size<=4000000):Calls prog 367 #[.agg #[.string nm]] w fun e w'=>e=.returned (.string (b1 58++nm))/\Below w.heap.size w w':=by
 have B1:Hid (Below w.heap.size w (w.alloc (.cells #[.string nm] 345))):=bI _ _;have V1:Hid (nY (w.alloc (.cells #[.string nm] 345)) w.heap.size (.string nm) 345):=nY.new _ _ _;have HV:Hid (aB [⟨#[58]⟩,nm]=b1 58++nm):=by show _=_;simp[aB,b1]
 go_in;go_upto_region 1 with fail
 generalize w.alloc (.cells #[.string nm] 345)=w2 at *;have hs2:=B1.o.size;have c0:=V1.o.c;go_wp2_with fail;refine pmb (eG [⟨#[58]⟩,nm] w2.heap.size _ _ (Zf w2 ⟨#[58]⟩ nm) (by simp) (by show 1+(nm.size+0)<=_;omega)) fun w5 hb5=>?_;have B5:Hid (Below w.heap.size w w5):=(B1.o.alloc hs2 _).trans (hb5.mono (by simp;omega));clear hb5;go_wp2_with fail;go_ret;exact⟨iW HV.o,B5.o⟩
end
def A3(w:World)(b:Nat)(x0 x1 x2:Value):Prop:=w.heap[b]?=some (.cells #[x0,x1,x2] 343 (0,0))
theorem A3.cs{w:World}{b:Nat}{x0 x1 x2:Value}(h:A3 w b x0 x1 x2):w.cell? ⟨b,0,none⟩=some x0/\w.cell? ⟨b,1,none⟩=some x1/\w.cell? ⟨b,2,none⟩=some x2:=by have h':w.heap[b]?=_:=h;refine⟨?_,?_,?_⟩<;>(unfold World.cell?;rw[h'];rfl)
theorem A3.lt{w:World}{b:Nat}{x0 x1 x2:Value}(h:A3 w b x0 x1 x2):b<w.heap.size:=(Array.getElem?_eq_some_iff.1 h).1
theorem A3.below{w w':World}{b:Nat}{x0 x1 x2:Value}(h:A3 w b x0 x1 x2)(hb:Below w.heap.size w w'):A3 w' b x0 x1 x2:=by show _=_;rw[hb.block b h.lt];exact h
theorem A3.new(w:World)(x0 x1 x2:Value):A3 (w.alloc (.cells #[x0,x1,x2] 343)) w.heap.size x0 x1 x2:=heap_alloc_new w _
theorem ZL(nm how v:ByteArray)(w:World)(hs:nm.size<=4000000)(hh:how.size<=10)(hv:v.size<=4000000):Calls prog 353 #[.agg #[.string nm,.string how,.string v]] w fun e w'=>e=.returned (.string (zF nm how v))/\Below w.heap.size w w':=by
 obtain⟨o,Ho⟩:∃o,Hid (bC nm=o):=⟨_,hid rfl⟩;have hsz:o.size<=4*nm.size:=by rw[<-Ho.o];exact bZ nm
 by_cases he:how.toList=[]
 .have hn:how=aA:=by
   have:=aH how [];rw[he]at this;exact of_decide_eq_true this.symm
  have HV:Hid (aB [⟨#[91]⟩,o,⟨#[93]⟩]=zF nm how v):=by show _=_;unfold zF;rw[if_pos hn,Ho.o];simp[aB,b1]
  clear hn;have B1:Hid (Below w.heap.size w (w.alloc (.cells #[.string nm,.string how,.string v] 343))):=bI _ _;go_in;go_wp2_with fail;generalize w.alloc (.cells #[.string nm,.string how,.string v] 343)=w2 at *;refine(oC nm _ hs).mono ?_;rw[Ho.o];rintro e w3 ⟨rfl,hb3⟩;have B3:Hid (Below w.heap.size w w3):=B1.o.trans (hb3.mono B1.o.size);have hs3:=B3.o.size;clear hb3;go_wp2_with fail;refine pmb (eG [⟨#[91]⟩,o,⟨#[93]⟩] w3.heap.size _ _ (row3 w3 ⟨#[91]⟩ o ⟨#[93]⟩) (by simp) (by show 1+(o.size+(1+0))<=_;omega)) fun w5 hb5=>?_;have B5:Hid (Below w.heap.size w w5):=(B3.o.alloc hs3 _).trans (hb5.mono (by simp;omega));clear hb5;go_wp2_with fail;go_ret;exact⟨iW HV.o,B5.o⟩
 .have hn:¬how=aA:=fun e=>he (by rw[e,fP];rfl);have hie:how.toList.isEmpty=false:=by cases hq:how.toList with|nil=>exact absurd hq he|cons _ _=>rfl
  have hib:(how.toList==[])=false:=by cases hq:how.toList with|nil=>exact absurd hq he|cons _ _=>rfl
  obtain⟨tx,PK⟩:∃o,Hid (oK v=o):=⟨_,hid rfl⟩;have hst:tx.size<=4*v.size+2:=by rw[<-PK.o];exact sU v
  have HV:Hid (aB [⟨#[91]⟩,o,how,tx,⟨#[93]⟩]=zF nm how v):=by show _=_;unfold zF;rw[if_neg hn,Ho.o,PK.o];simp[aB,b1]
  clear hn;have B2:Hid (Below w.heap.size w (w.alloc (.cells #[.string nm,.string how,.string v] 343)).drew):=nN _ _;have A2:Hid (A3 (w.alloc (.cells #[.string nm,.string how,.string v] 343)).drew w.heap.size (.string nm) (.string how) (.string v)):=A3.new _ _ _ _;go_in;go_wp2_with fail;refine wp_region_any (by kernel_rfl) ?_;change wpAny _ _ _ _ _ _ _ (World.drew _);generalize(w.alloc (.cells #[.string nm,.string how,.string v] 343)).drew=w2 at *;have hs2:=B2.o.size;refine wpAny_of_held (S:=fun wx=>A3 wx w.heap.size (.string nm) (.string how) (.string v)) _ _ _ _ ?_;refine bY 0 rfl A2.o (by intro w hSw;obtain⟨a0,a1,a2⟩:=hSw.cs;exact gs) ?_;refine bY 1 rfl A2.o (by intro w hSw;obtain⟨a0,a1,a2⟩:=hSw.cs;exact gs) ?_
  refine bY 3 rfl A2.o (by intro w hSw;obtain⟨a0,a1,a2⟩:=hSw.cs;exact gs) ?_;refine bY 4 rfl A2.o (by intro w hSw;obtain⟨a0,a1,a2⟩:=hSw.cs;exact gs) ?_;refine bY 5 rfl A2.o (by intro w hSw;obtain⟨a0,a1,a2⟩:=hSw.cs;exact gs) ?_;refine bY 6 rfl A2.o (by intro w hSw;obtain⟨a0,a1,a2⟩:=hSw.cs;exact gs) ?_;refine jh 2 fun K hK=>?_;go_simp;refine(oC nm _ hs).mono ?_;rw[Ho.o];rintro e w3 ⟨rfl,hb3⟩;have B3:Hid (Below w.heap.size w w3):=B2.o.trans (hb3.mono hs2);have A4:Hid (A3 w3 w.heap.size (.string nm) (.string how) (.string v)):=A2.o.below hb3;have hs3:=B3.o.size;clear hb3;refine hK.o _ _ A4.o (fun _=>?_);clear hK K;refine jh 7 fun K hK=>?_;go_simp;refine(VW v _ hv).mono ?_;rw[PK.o];rintro e w4 ⟨rfl,hb4⟩
  have B4:Hid (Below w.heap.size w w4):=B3.o.trans (hb4.mono hs3);have A5:Hid (A3 w4 w.heap.size (.string nm) (.string how) (.string v)):=A4.o.below hb4;have hs4:=B4.o.size;clear hb4;refine hK.o _ _ A5.o (fun _=>?_);clear hK K;refine jh 8 fun K hK=>?_;go_simp;refine hK.o _ _ (A5.o.below (bI _ _)) (fun _=>?_);clear hK K;refine jh 9 fun K hK=>?_;go_simp;refine pmb (eG [⟨#[91]⟩,o,how,tx,⟨#[93]⟩] w4.heap.size _ _ (ad8 w4 ⟨#[91]⟩ o how tx ⟨#[93]⟩) (by simp) (by show 1+(o.size+(how.size+(tx.size+(1+0))))<=_;omega)) fun w5 hb5=>?_;have B5:Hid (Below w.heap.size w w5):=(B4.o.alloc hs4 _).trans (hb5.mono (by simp;omega));have A6:Hid (A3 w5 w.heap.size (.string nm) (.string how) (.string v)):=(A5.o.below (bI _ _)).below hb5;clear hb5;refine hK.o _ _ A6.o (fun _=>?_);clear hK K;refine jh 10 fun K hK=>?_;go_simp
  refine hK.o _ _ (A6.o) (fun _=>?_);clear hK K;refine wpAnyH_done (by kernel_rfl) ?_ _;go_wp2_with fail;go_ret;exact⟨iW HV.o,B5.o⟩
end
def eX(w:World):Prop:=∀(n:Nat) (w':World),n<=1000->Below w.heap.size w w'->Calls prog 184 #[.int .i64 (n:Int)] w' fun e w''=>e=.returned (.string (Ej n))/\Below w'.heap.size w' w''
theorem eX.below{w w':World}{g:Nat}(h:eX w)(hb:Below g w w')(hg:w.heap.size<=g):eX w':=fun n w2 hn hb2=>h n w2 hn ((hb.mono hg).trans (hb2.mono (Nat.le_trans nl hb.size)))
theorem J7(x:ByteArray):aB [⟨#[58,110,116,104,45,99,104,105,108,100,40]⟩,x,⟨#[41]⟩]=b1 58++(iR++(b1 40++(x++b1 41))):=by
 have e:b1 58++(iR++b1 40)=⟨#[58,110,116,104,45,99,104,105,108,100,40]⟩:=by decide
 show⟨#[58,110,116,104,45,99,104,105,108,100,40]⟩++(x++(b1 41++aB []))=_;rw[<-e,show aB []=aA from rfl,jL];simp only[ByteArray.append_assoc]
theorem ZM(x:ByteArray):aB [⟨#[58,110,111,116,40]⟩,x,⟨#[41]⟩]=b1 58++(lg++(b1 40++(x++b1 41))):=by
 have e:b1 58++(lg++b1 40)=⟨#[58,110,111,116,40]⟩:=by decide
 show⟨#[58,110,111,116,40]⟩++(x++(b1 41++aB []))=_;rw[<-e,show aB []=aA from rfl,jL];simp only[ByteArray.append_assoc]
theorem abM(x:ByteArray):aB [⟨#[58,105,115,40]⟩,x,⟨#[41]⟩]=b1 58++(xB++(b1 40++(x++b1 41))):=by
 have e:b1 58++(xB++b1 40)=⟨#[58,105,115,40]⟩:=by decide
 show⟨#[58,105,115,40]⟩++(x++(b1 41++aB []))=_;rw[<-e,show aB []=aA from rfl,jL];simp only[ByteArray.append_assoc]
def P2(w:World)(b:Nat)(x0 x1:Value):Prop:=w.heap[b]?=some (.cells #[x0,x1] 357 (0,0))
theorem P2.cs{w:World}{b:Nat}{x0 x1:Value}(h:P2 w b x0 x1):w.cell? ⟨b,0,none⟩=some x0/\w.cell? ⟨b,1,none⟩=some x1:=by have h':w.heap[b]?=_:=h;refine⟨?_,?_⟩<;>(unfold World.cell?;rw[h'];rfl)
theorem P2.new(w:World)(x0 x1:Value):P2 (w.alloc (.cells #[x0,x1] 357)) w.heap.size x0 x1:=heap_alloc_new w _
theorem MZ(nm:ByteArray)(w:World)(hne:(nm.toList==[])=false)(hs:nm.size<=10):Calls prog 383 #[.agg #[.string nm,.int .i64 0]] w fun e w'=>e=.returned (.string (b1 58++(iR++(b1 40++(nm++b1 41)))))/\Below w.heap.size w w':=by
 have B1:Hid (Below w.heap.size w (w.alloc (.cells #[.string nm,.int .i64 0] 357))):=bI _ _;have V1:Hid (P2 (w.alloc (.cells #[.string nm,.int .i64 0] 357)) w.heap.size (.string nm) (.int .i64 0)):=P2.new _ _ _;have HV:Hid (aB [⟨#[58,110,116,104,45,99,104,105,108,100,40]⟩,nm,⟨#[41]⟩]=b1 58++(iR++(b1 40++(nm++b1 41)))):=J7 nm;have hie:nm.toList.isEmpty=false:=by cases hq:nm.toList with|nil=>rw[hq]at hne;cases hne|cons _ _=>rfl
 go_in;go_upto_region 1 with fail
 generalize w.alloc (.cells #[.string nm,.int .i64 0] 357)=w2 at *;have hs2:=B1.o.size;obtain⟨c0,c1⟩:=V1.o.cs;go_wp2_with fail;refine pmb (eG [⟨#[58,110,116,104,45,99,104,105,108,100,40]⟩,nm,⟨#[41]⟩] w2.heap.size _ _ (row3 w2 _ nm _) (by simp) (by show 11+(nm.size+(1+0))<=_;omega)) fun w5 hb5=>?_;have B5:Hid (Below w.heap.size w w5):=(B1.o.alloc hs2 _).trans (hb5.mono (by simp;omega));clear hb5;go_wp2_with fail;go_ret;exact⟨iW HV.o,B5.o⟩
theorem WY(n:Nat)(w:World)(hn:n<=1000)(hI:eX w)(hd:(Ej n).size<=100):Calls prog 383 #[.agg #[.string ⟨#[]⟩,.int .i64 (n:Int)]] w fun e w'=>e=.returned (.string (b1 58++(iR++(b1 40++(Ej n++b1 41)))))/\Below w.heap.size w w':=by
 have B1:Hid (Below w.heap.size w (w.alloc (.cells #[.string ⟨#[]⟩,.int .i64 (n:Int)] 357))):=bI _ _;have V1:Hid (P2 (w.alloc (.cells #[.string ⟨#[]⟩,.int .i64 (n:Int)] 357)) w.heap.size (.string ⟨#[]⟩) (.int .i64 (n:Int))):=P2.new _ _ _;obtain⟨d,Hd⟩:∃d,Hid (Ej n=d):=⟨_,hid rfl⟩;have HI:Hid (Calls prog 184 #[.int .i64 (n:Int)] (w.alloc (.cells #[.string ⟨#[]⟩,.int .i64 (n:Int)] 357)) fun e w''=>e=.returned (.string d)/\Below (w.alloc (.cells #[.string ⟨#[]⟩,.int .i64 (n:Int)] 357)).heap.size (w.alloc (.cells #[.string ⟨#[]⟩,.int .i64 (n:Int)] 357)) w''):=by have:=hI n _ hn B1.o;rwa[Hd.o]at this
 rw[Hd.o]at hd;rw[Hd.o];have HV:Hid (aB [⟨#[58,110,116,104,45,99,104,105,108,100,40]⟩,d,⟨#[41]⟩]=b1 58++(iR++(b1 40++(d++b1 41)))):=J7 d;clear hI;go_in;go_upto_region 1 with fail
 generalize w.alloc (.cells #[.string ⟨#[]⟩,.int .i64 (n:Int)] 357)=w2 at *;have hs2:=B1.o.size;obtain⟨c0,c1⟩:=V1.o.cs;go_wp2_with fail;refine HI.o.mono ?_;rintro e w3 ⟨rfl,hb3⟩;have B3:Hid (Below w.heap.size w w3):=B1.o.trans (hb3.mono hs2);have hs3:=B3.o.size;clear hb3 HI c0 c1;go_wp2_with fail;refine pmb (eG [⟨#[58,110,116,104,45,99,104,105,108,100,40]⟩,d,⟨#[41]⟩] w3.heap.size _ _ (row3 w3 _ d _) (by simp) (by show 11+(d.size+(1+0))<=_;omega)) fun w5 hb5=>?_;have B5:Hid (Below w.heap.size w w5):=(B3.o.alloc hs3 _).trans (hb5.mono (by simp;omega));clear hb5;go_wp2_with fail;go_ret;exact⟨iW HV.o,B5.o⟩
theorem abN(la:Option Addr)(ll lc:Nat)(o:ByteArray)(w:World)(ho:o.size<=549755813888)
  (hL:∀w',Below w.heap.size w w'->Calls prog 333 #[.slice la ll lc] w' fun e w''=>e=.returned (.string o)/\Below w'.heap.size w' w''):
  Calls prog 376 #[.agg #[.slice la ll lc]] w fun e w'=>e=.returned (.string (b1 58++(lg++(b1 40++(o++b1 41)))))/\Below w.heap.size w w':=by
 have B1:Hid (Below w.heap.size w (w.alloc (.cells #[.slice la ll lc] 347))):=bI _ _;have HL:Hid (Calls prog 333 #[.slice la ll lc] (w.alloc (.cells #[.slice la ll lc] 347)) fun e w''=>e=.returned (.string o)/\Below (w.alloc (.cells #[.slice la ll lc] 347)).heap.size (w.alloc (.cells #[.slice la ll lc] 347)) w''):=hL _ B1.o;have HV:Hid (aB [⟨#[58,110,111,116,40]⟩,o,⟨#[41]⟩]=b1 58++(lg++(b1 40++(o++b1 41)))):=ZM o;clear hL;go_in;go_wp2_with fail;generalize w.alloc (.cells #[.slice la ll lc] 347)=w2 at *;have hs2:=B1.o.size;refine HL.o.mono ?_;rintro e w3 ⟨rfl,hb3⟩;have B3:Hid (Below w.heap.size w w3):=B1.o.trans (hb3.mono hs2);have hs3:=B3.o.size;clear hb3 HL;go_wp2_with fail;refine(eG [⟨#[58,110,111,116,40]⟩,o,⟨#[41]⟩] w3.heap.size _ _ (row3 w3 _ o _) (by simp) (by show 5+(o.size+(1+0))<=_;omega)).mono ?_
 rintro e w5 ⟨rfl,hb5⟩;have B5:Hid (Below w.heap.size w w5):=(B3.o.alloc hs3 _).trans (hb5.mono (by simp;omega));clear hb5;go_wp2_with fail;go_ret;exact⟨iW HV.o,B5.o⟩
theorem ady(la:Option Addr)(ll lc:Nat)(o:ByteArray)(w:World)(ho:o.size<=549755813888)
  (hL:∀w',Below w.heap.size w w'->Calls prog 333 #[.slice la ll lc] w' fun e w''=>e=.returned (.string o)/\Below w'.heap.size w' w''):
  Calls prog 380 #[.agg #[.slice la ll lc]] w fun e w'=>e=.returned (.string (b1 58++(xB++(b1 40++(o++b1 41)))))/\Below w.heap.size w w':=by
 have B1:Hid (Below w.heap.size w (w.alloc (.cells #[.slice la ll lc] 348))):=bI _ _;have HL:Hid (Calls prog 333 #[.slice la ll lc] (w.alloc (.cells #[.slice la ll lc] 348)) fun e w''=>e=.returned (.string o)/\Below (w.alloc (.cells #[.slice la ll lc] 348)).heap.size (w.alloc (.cells #[.slice la ll lc] 348)) w''):=hL _ B1.o;have HV:Hid (aB [⟨#[58,105,115,40]⟩,o,⟨#[41]⟩]=b1 58++(xB++(b1 40++(o++b1 41)))):=abM o;clear hL;go_in;go_wp2_with fail;generalize w.alloc (.cells #[.slice la ll lc] 348)=w2 at *;have hs2:=B1.o.size;refine HL.o.mono ?_;rintro e w3 ⟨rfl,hb3⟩;have B3:Hid (Below w.heap.size w w3):=B1.o.trans (hb3.mono hs2);have hs3:=B3.o.size;clear hb3 HL;go_wp2_with fail;refine(eG [⟨#[58,105,115,40]⟩,o,⟨#[41]⟩] w3.heap.size _ _ (row3 w3 _ o _) (by simp) (by show 4+(o.size+(1+0))<=_;omega)).mono ?_
 rintro e w5 ⟨rfl,hb5⟩;have B5:Hid (Below w.heap.size w w5):=(B3.o.alloc hs3 _).trans (hb5.mono (by simp;omega));clear hb5;go_wp2_with fail;go_ret;exact⟨iW HV.o,B5.o⟩
end Go.Proofs.YtlliliddljkbfaaGreatDoor
namespace Go.Proofs.YtlliliddljkbfaaGreatDoor.Sp
set_option maxHeartbeats 64000000
set_option maxRecDepth 100000
def afz(p:oP)(e:Nat):List Nat:=if parentOf p e<0 then [e] else Jy p (parentOf p e) p.length
structure Par(p:oP):Prop where
 lt:∀e,e<p.length->parentOf p e<e
 root:∀e,e<p.length->parentOf p e<0->e=0
end Go.Proofs.YtlliliddljkbfaaGreatDoor.Sp
namespace Go.Proofs.YtlliliddljkbfaaGreatDoor.Sp
set_option maxHeartbeats 64000000
set_option maxRecDepth 100000
theorem vH(s:ByteArray):∀f i acc,(jI s f i acc).1.size<=acc.size+f/\acc.size<=(jI s f i acc).1.size
 |0,_,acc=>by simp[jI]
 |f+1,i,acc=>by
  unfold jI;by_cases h1:iD (pk s i)=true
  .rw[if_pos h1];have:=vH s f (i+1) (acc++one s i);rw[ByteArray.size_append,iE (dX (vU h1))]at this;omega
  .rw[if_neg h1];by_cases h2:jq s i=true
   .rw[if_pos h2];have:=vH s f (esc s i).2 (acc++(esc s i).1);rw[ByteArray.size_append,kZ]at this;omega
   .rw[if_neg h2];simp
theorem qI(s:ByteArray)(i:Nat):(name s i).1.size<=s.size:=by have:=(vH s s.size i ByteArray.empty).1;simp at this;exact this
theorem Ap{s:ByteArray}{i:Nat}(h:jD s i=true)(hs:0<s.size):0<(name s i).1.size:=by
 unfold name;obtain⟨f,hf⟩:∃f,s.size=f+1:=⟨s.size-1,by omega⟩;rw[hf];unfold jI;unfold jD at h;by_cases h1:iD (pk s i)=true
 .rw[if_pos h1];have:=(vH s f (i+1) (ByteArray.empty++one s i)).2;rw[ByteArray.size_append,iE (dX (vU h1))]at this;omega
 .rw[if_neg h1];have h2:jq s i=true:=by simpa[h1]using h
  rw[if_pos h2];have:=(vH s f (esc s i).2 (ByteArray.empty++(esc s i).1)).2;rw[ByteArray.size_append,kZ]at this;omega
theorem pK(s:ByteArray)(q:Int):∀f i acc,(lT s q f i acc).1.word.size<=acc.size+f
 |0,_,acc=>by simp[lT,Tok.w]
 |f+1,i,acc=>by
  unfold lT;by_cases h0:s.size<=i
  .rw[if_pos h0];simp[Tok.w]
  rw[if_neg h0];by_cases h1:pk s i=q
  .rw[if_pos h1];simp[Tok.w]
  rw[if_neg h1];by_cases h2:pk s i=10
  .rw[if_pos h2];simp[Tok.k]
  rw[if_neg h2];by_cases h3:pk s i=92
  .rw[if_pos h3];by_cases h4:s.size<=i+1
   .rw[if_pos h4];have:=pK s q f (i+1) acc;omega
   rw[if_neg h4];by_cases h5:pk s (i+1)=10
   .rw[if_pos h5];have:=pK s q f (i+2) acc;omega
   rw[if_neg h5];have:=pK s q f (esc s i).2 (acc++(esc s i).1);rw[ByteArray.size_append,kZ]at this;omega
  rw[if_neg h3];have:=pK s q f (i+1) (acc++one s i);rw[ByteArray.size_append,iE (by omega)]at this;omega
theorem tu(s:ByteArray):∀f i acc,(jy s f i acc).1.word.size<=acc.size+f
 |0,_,acc=>by simp[jy,Tok.w]
 |f+1,i,acc=>by
  unfold jy;by_cases h0:s.size<=i
  .rw[if_pos h0];simp[Tok.w]
  rw[if_neg h0];by_cases h1:pk s i=41
  .rw[if_pos h1];simp[Tok.w]
  rw[if_neg h1];by_cases h2:bJ (pk s i)=true
  .rw[if_pos h2];by_cases h3:s.size<=blk s i
   .rw[if_pos h3];simp[Tok.w]
   rw[if_neg h3];by_cases h4:pk s (blk s i)=41
   .rw[if_pos h4];simp[Tok.w]
   rw[if_neg h4];simp[Tok.k]
  rw[if_neg h2];by_cases h3:jq s i=true
  .rw[if_pos h3];have:=tu s f (esc s i).2 (acc++(esc s i).1);rw[ByteArray.size_append,kZ]at this;omega
  rw[if_neg h3];by_cases h4:qJ (pk s i)=true
  .rw[if_pos h4];simp[Tok.k]
  rw[if_neg h4];have:=tu s f (i+1) (acc++one s i);rw[ByteArray.size_append,iE (by omega)]at this;omega
theorem pO(s:ByteArray)(q:Int):∀f i acc,((lT s q f i acc).1.kind=2\/(lT s q f i acc).1.kind=3)/\(lT s q f i acc).1.unit=ByteArray.empty
 |0,_,acc=>by simp[lT,Tok.w]
 |f+1,i,acc=>by
  unfold lT;split
  .simp[Tok.w]
  split
  .simp[Tok.w]
  split
  .simp[Tok.k]
  split
  .split
   .exact pO s q f _ _
   split
   .exact pO s q f _ _
   .exact pO s q f _ _
  .exact pO s q f _ _
theorem tC(s:ByteArray):∀f i acc,((jy s f i acc).1.kind=12\/(jy s f i acc).1.kind=13)/\(jy s f i acc).1.unit=ByteArray.empty
 |0,_,acc=>by simp[jy,Tok.w]
 |f+1,i,acc=>by
  unfold jy;split
  .simp[Tok.w]
  split
  .simp[Tok.w]
  split
  .split
   .simp[Tok.w]
   split
   .simp[Tok.w]
   .simp[Tok.k]
  split
  .exact tC s f _ _
  split
  .simp[Tok.k]
  .exact tC s f _ _
theorem cZ.k{n:Int}(h5:n≠5)(h7:n≠7)(h15:n≠15)(hn:¬(n=4\/n=10\/n=11\/n=14)):cZ (Tok.k n):=⟨by simp[Tok.k],by simp[Tok.k],fun h=>absurd h h5,fun h=>absurd h h7,fun h=>absurd h h15,fun h=>absurd h hn⟩
theorem cZ.w{n:Int}{x:ByteArray}(hx:x.size<=1000)(h5:n≠5)(h7:n≠7)(h15:n≠15)(hn:(n=4\/n=10\/n=11\/n=14)->0<x.size):cZ (Tok.w n x):=⟨by show x.size<=_;omega,by simp[Tok.w],fun h=>absurd h h5,fun h=>absurd h h7,fun h=>absurd h h15,hn⟩
theorem PX{s:ByteArray}{i:Nat}(hi:i<s.size)(hs:s.size<=1000)(h:fV s i=true):cZ (numeric s i).1:=by
 have h1:=DT h;have h2:=y8 (s:=s) (i:=i) (by omega);have hz:(s.extract i (dL s i)).size=dL s i-i:=by simp;omega
 unfold numeric;simp only;by_cases h37:pk s (dL s i)=37
 .rw[if_pos h37];exact cZ.w (by rw[hz];omega) (by omega) (by omega) (by omega) (by omega)
 rw[if_neg h37];by_cases hb:iq s (dL s i)=true
 .rw[if_pos hb];have hn:=qI s (dL s i);exact⟨by rw[hz];omega,by show(name s (dL s i)).1.size<=_;omega,fun h=>by simp at h,fun _=>Ap (y7 hb) (by omega),fun h=>by simp at h,fun h=>by simp at h⟩
 .rw[if_neg hb];exact⟨by show(s.extract i (dL s i)).size<=_;rw[hz];omega,by simp[Tok.w],fun _=>by show 0<(s.extract i (dL s i)).size;rw[hz];omega,fun h=>by simp[Tok.w]at h,fun h=>by simp[Tok.w]at h,fun h=>by simp[Tok.w]at h⟩
theorem named_ok{s:ByteArray}{i:Nat}(hs:s.size<=1000)(hb:iq s i=true)(hi:i<s.size):cZ (named s i).1:=by
 have hn:=qI s i;have hp:=Ap (y7 hb) (by omega);unfold named;simp only;split
 .split
  .have h1:=tu s s.size (blk s ((name s i).2+1)) ByteArray.empty;have h2:=tC s s.size (blk s ((name s i).2+1)) ByteArray.empty;simp at h1;unfold link;refine⟨by omega,by rw[h2.2];simp,fun h=>?_,fun h=>?_,fun h=>?_,fun h=>?_⟩<;>(rcases h2.1 with e|e<;>rw[e]at h<;>simp at h)
  .exact cZ.w (by omega) (by omega) (by omega) (by omega) (fun _=>hp)
 .exact cZ.w (by omega) (by omega) (by omega) (by omega) (fun _=>hp)
theorem WZ{s:ByteArray}{i:Nat}(hi:i<s.size)(hs:s.size<=1000):cZ (token s i).1:=by
 unfold token;split
 .exact cZ.k (by omega) (by omega) (by omega) (by omega)
 split
 .have h1:=pK s (pk s i) s.size (i+1) ByteArray.empty;have h2:=pO s (pk s i) s.size (i+1) ByteArray.empty;simp at h1;unfold txt;refine⟨by omega,by rw[h2.2];simp,fun h=>?_,fun h=>?_,fun h=>?_,fun h=>?_⟩<;>(rcases h2.1 with e|e<;>rw[e]at h<;>simp at h)
 split
 .rename_i h35;have:=qI s (i+1);exact cZ.w (by omega) (by omega) (by omega) (by omega) (fun _=>Ap h35.2 (by omega))
 split
 .exact PX hi hs ‹_›
 split
 .exact cZ.k (by omega) (by omega) (by omega) (by omega)
 split
 .exact cZ.k (by omega) (by omega) (by omega) (by omega)
 split
 .rename_i h64;have:=qI s (i+1);exact cZ.w (by omega) (by omega) (by omega) (by omega) (fun _=>Ap (y7 h64.2) (by omega))
 split
 .exact named_ok hs ‹_› hi
 .have:=iE hi;exact⟨by show(one s i).size<=_;omega,by simp[Tok.w],fun h=>by simp[Tok.w]at h,fun h=>by simp[Tok.w]at h,fun _=>this,fun h=>by simp[Tok.w]at h⟩
theorem RI{s:ByteArray}(hs:s.size<=1000):∀f i,i<=s.size->∀t∈tokF s f i,cZ t
 |0,_,_,t,h=>by simp[tokF]at h
 |f+1,i,hi,t,h=>by
  unfold tokF at h;by_cases h0:s.size<=i
  .rw[if_pos h0]at h;simp at h
  .rw[if_neg h0]at h;rcases List.mem_cons.1 h with e|e
   .rw[e];exact WZ (by omega) hs
   .exact RI hs f _ (rZ (uJ (by omega))) t e
theorem J8{s:ByteArray}(hs:s.size<=1000):∀t∈toks s,cZ t:=RI hs _ _ (rZ (Nat.zero_le _))
end Go.Proofs.YtlliliddljkbfaaGreatDoor.Sp
