import Derived.Test.YtlliliddljkbfaaGreatDoorC8
import Derived.Test.YtlliliddljkbfaaGreatDoorC13
import Derived.Test.YtlliliddljkbfaaGreatDoorC18
import Derived.Test.YtlliliddljkbfaaGreatDoorC20
import Derived.Deep.DeepCutAuto
namespace Go.Proofs.YtlliliddljkbfaaGreatDoor
set_option maxHeartbeats 64000000
set_option maxRecDepth 100000
open Go.Proofs.Tryz (prog)
open Go.RowKit Sp
def strOf(l:List UInt8):ByteArray:=⟨l.toArray⟩
theorem nR(a b:List UInt8):strOf a++strOf b=strOf (a++b):=by
 apply ByteArray.ext
 simp[strOf,ByteArray.data_append]
theorem TI{s:ByteArray}{k:Nat}(h:k<s.size):one s k=strOf [s[k]]:=by
 apply ByteArray.ext
 apply Array.ext'
 rw[one,Lib.extract_data,drop_cons h,show k+1-k=1 from by omega];rfl
theorem sW(l:List UInt8):(strOf l).size=l.length:=rfl
theorem Zl(s:ByteArray)(w:World)(hs:s.size<=600):
  Calls prog 73 #[.string s] w fun e w'=>e=.returned (.string (Sp.clean s))/\w'=w:=by
 go_in;go_wp2_with fail;go_loopg[3,4] s.size (fun g v3 v4 wr=>∃(k:Nat) (x:ByteArray),k+g=s.size/\x.size<=k/\v4=.int .i64 (k:Int)/\v3=.string x/\Aside (x=strOf (aZ s k)/\w=wr));case atStart=>exact⟨0,ByteArray.empty,oo,by simp,rfl,rfl,rfl,rfl⟩
 case round=>
  obtain⟨k,x,hk,hxs,rfl,rfl,hA⟩:=hrel;have HX:Hid (x=strOf (aZ s k)):=hA.o.1;obtain rfl:=hA.o.2;clear hA;by_cases hlt:k<s.size
  .have h1:(k:Int)<(s.size:Int):=oo;have hix:=aV s k hlt;have HT:Hid (aZ s (k+1)=aZ s k++U1 s k):=rfl;by_cases h13:pk s k=13
   .have e1:(pk s k==13)=true:=by rw[h13];rfl
    by_cases hnx:k+1<s.size
    .have abj:(k:Int)+1<(s.size:Int):=oo;have hix2:∀w:World,(Instr.index 9 (.string s) (.int .i64 ((k:Int)+1))).run prog w=.ok (.int .u8 (pk s (k+1))) w:=fun w=>aV s (k+1) hnx w;by_cases h10:pk s (k+1)=10
     .have e2:(pk s (k+1)==10)=true:=by rw[h10];rfl
      have HC:Hid (x=strOf (aZ s (k+1))):=by show _=_;rw[HT.o,LZ hlt h13 h10,List.append_nil];exact HX.o
      clear h13 h10;go_wp2_with fail;go_roundg(gk-1);case measure=>omega
      case rel=>exact⟨k+1,x,oo,oo,by congr 1,rfl,HC.o,rfl⟩
     .have e2:(pk s (k+1)==10)=false:=by simpa using h10
      have HC:Hid (x++strOf [10]=strOf (aZ s (k+1))):=by show _=_;rw[HT.o,qZ hlt (.inl h13) (fun h=>h10 h.2),HX.o,nR]
      clear h13 h10;go_wp2_with fail;go_roundg(gk-1);case measure=>omega
      case rel=>exact⟨k+1,x++strOf [10],oo,by simp[sW];omega,by congr 1,rfl,HC.o,rfl⟩
    .have abj:(s.size:Int)<=(k:Int)+1:=oo;have HC:Hid (x++strOf [10]=strOf (aZ s (k+1))):=by show _=_;rw[HT.o,qZ hlt (.inl h13) (fun h=>by have:=dX (s:=s) (i:=k+1) oo;omega),HX.o,nR]
     clear h13;go_wp2_with fail;go_roundg(gk-1);case measure=>omega
     case rel=>exact⟨k+1,x++strOf [10],oo,by simp[sW];omega,by congr 1,rfl,HC.o,rfl⟩
   .have e1:(pk s k==13)=false:=by simpa using h13
    by_cases h12:pk s k=12
    .have e2:(pk s k==12)=true:=by rw[h12];rfl
     have HC:Hid (x++strOf [10]=strOf (aZ s (k+1))):=by show _=_;rw[HT.o,qZ hlt (.inr h12) (fun h=>h13 h.1),HX.o,nR]
     clear h13 h12;go_wp2_with fail;go_roundg(gk-1);case measure=>omega
     case rel=>exact⟨k+1,x++strOf [10],oo,by simp[sW];omega,by congr 1,rfl,HC.o,rfl⟩
    .have e2:(pk s k==12)=false:=by simpa using h12
     by_cases h0:pk s k=0
     .have e3:(pk s k==0)=true:=by rw[h0];rfl
      have HC:Hid (x++strOf [63]=strOf (aZ s (k+1))):=by show _=_;rw[HT.o,Rq hlt h0,HX.o,nR]
      clear h13 h12 h0;go_wp2_with fail;go_roundg(gk-1);case measure=>omega
      case rel=>exact⟨k+1,x++strOf [63],oo,by simp[sW];omega,by congr 1,rfl,HC.o,rfl⟩
     .have e3:(pk s k==0)=false:=by simpa using h0
      have HC:Hid (x++one s k=strOf (aZ s (k+1))):=by show _=_;rw[HT.o,L8 hlt h13 h12 h0,HX.o,TI hlt,nR]
      have hsl:=oV s k hlt;have hsz:(one s k).size<=1:=by rw[iE hlt];omega
      clear h13 h12 h0;go_wp2_with fail;go_roundg(gk-1);case measure=>omega
      case rel=>exact⟨k+1,x++one s k,oo,by simp;omega,by congr 1,rfl,HC.o,rfl⟩
  .have h1:(s.size:Int)<=(k:Int):=oo;have HC:Hid (x=Sp.clean s):=by
    show _=_;have e:k=s.size:=oo;rw[HX.o,e];rfl
   go_wp2_with fail;go_ret;exact⟨aea HC.o,rfl⟩
theorem TJ(lN:ByteArray)(w:World)(hs:lN.size<=600):
  Calls prog 38 #[.string lN] w fun e w'=>∃v,e=.returned v/\w'.ownsRow w.heap.size 68 3 v (toks (Sp.clean lN)).length (gY (toks (Sp.clean lN)))/\Below w.heap.size w w':=by
 have hcs:=oD lN;have htl:=V9 (Sp.clean lN);obtain⟨s,HS⟩:∃s,Hid (Sp.clean lN=s):=⟨_,rfl⟩;rw[HS.o]at hcs htl⊢;have hc0:=rZ (s:=s) (i:=0) oo;obtain⟨iT,hiT⟩:=La;have HI:Hid (prog.info? 68=some iT/\iT.zero=some (.agg #[.int .i64 0,.string ⟨#[]⟩,.string ⟨#[]⟩])/\iT.size=3/\iT.bytes=40):=hiT;clear hiT;go_in;go_wp2_with fail;refine(Zl lN _ hs).mono ?_;rw[HS.o];rintro e wq ⟨rfl,hwq⟩;rw[hwq];clear hwq wq;go_wp2_with fail;refine pmb (ER s _ 0 _ rfl oo oo) fun wq hwq=>?_;rw[hwq];clear hwq wq;go_wp2_with fail
 go_loopg[4,5] s.size (fun g v4 v5 wr=>∃(v:Value) (k:Nat) (ts:List Tok),v=v4/\v5=.int .i64 (k:Int)/\s.size<=k+g/\k<=s.size/\ts.length<=k/\Aside (ts++tokF s g k=toks s/\wr.ownsRow w.heap.size 68 3 v ts.length (gY ts)/\Below w.heap.size w wr));case atStart=>exact⟨_,com s 0,[],rfl,rfl,oo,hc0,by simp,rfl,World.ownsRow_nil _ _ _ _,Below.refl _ _⟩
 case round=>
  obtain⟨v,k,ts,rfl,rfl,hk,hk2,htk,hA⟩:=hrel;have HT:Hid (ts++tokF s gk k=toks s):=hA.o.1;have HO:Hid (wr.ownsRow w.heap.size 68 3 v ts.length (gY ts)):=hA.o.2.1;have HB:Hid (Below w.heap.size w wr):=hA.o.2.2;clear hA;by_cases hlt:k<s.size
  .have h1:(k:Int)<(s.size:Int):=oo;obtain⟨f,rfl⟩:∃f,gk=f+1:=⟨gk-1,oo⟩;have htg:=Ec hlt;have V8:=uJ hlt;have H1:Hid (ts++[(token s k).1]++tokF s f (com s (token s k).2)=toks s):=by
    show _=_;rw[<-HT.o];conv=>rhs;unfold tokF
    rw[if_neg oo];simp
   obtain⟨t,q,HX⟩:∃t q,Hid (token s k=(t,q)):=⟨_,_,rfl⟩;rw[HX.o]at htg V8;have H2:Hid (ts++[t]++tokF s f (com s q)=toks s):=by have:=H1.o;rw[HX.o]at this;exact this
   clear H1 HT;dsimp only at htg V8
   have hcq:=rZ V8;have hcg:=OD V8;have hsz:=HB.o.size;go_wp2_with fail;refine(Zh s _ k _ oo oo hlt).mono ?_;rw[HX.o];rintro e w1 ⟨rfl,hb1⟩;have HB1:Hid (Below w.heap.size w w1):=HB.o.trans (hb1.mono hsz);have qK:Hid (w1.ownsRow w.heap.size 68 3 v ts.length (gY ts)):=by
    refine⟨HO.o.1,?_⟩;rcases HO.o.2 with h|⟨g,cap,cur,hv,hbg,hgg,rest⟩
    .exact .inl h
    .exact .inr ⟨g,cap,cur,hv,hbg,by rw[hb1.block g (Array.getElem?_eq_some_iff.1 hgg).1];exact hgg,rest⟩
   clear hb1;have hsz1:=HB1.o.size;unfold aF;go_wp2_with(at_builtin;refine wpList_append_own _ rfl _ _ 38 rfl w.heap.size 68 iT (.agg #[.int .i64 0,.string ⟨#[]⟩,.string ⟨#[]⟩]) 3 40 Tryz.underlying38 HI.o.1 HI.o.2.1 HI.o.2.2.1 HI.o.2.2.2 rfl oo v ts.length (gY ts) rfl ((qK.o.alloc _).alloc _) ⟨w1.heap.size+1,0,none⟩ 1 1 [.int .i64 t.kind,.string t.word,.string t.unit] rfl rfl ?_ (Mc _) ?_ ?_ ?_ ?_)
   .intro j u hu;have e:(w1.alloc (.cells #[.int .i64 t.kind,.string t.word,.string t.unit] 68)).heap.size=w1.heap.size+1:=by simp
    rw[Addr.add_lit,Nat.zero_add,<-e,World.cell?_alloc_mark,<-hu];simp
   .unfold maxLen;omega
   .omega
   .simp;omega
   intro v4 w2 hown2 jC _;have Bh:Hid (w2.ownsRow w.heap.size 68 3 v4 (ts.length+1) (gY ts++[.int .i64 t.kind,.string t.word,.string t.unit])):=hown2;have HB2:Hid (Below w.heap.size w w2):=((HB1.o.alloc hsz1 _).alloc (by simp;omega) _).grown jC (by simp;omega) (fun rr hr=>(qK.o.lt rr hr).1);clear hown2 jC;go_wp2_with fail;refine pmb (ER s _ q _ oo oo oo) fun wq hwq=>?_;rw[hwq];clear hwq wq;go_wp2_with fail;go_roundg f;case measure=>omega
   case rel=>exact⟨v4,com s q,ts++[t],rfl,rfl,oo,oo,by simp;omega,H2.o,by rw[um,List.length_append];exact Bh.o,HB2.o⟩
  .have h1:(s.size:Int)<=(k:Int):=oo;have HV:Hid (ts=toks s):=by
    show _=_;rw[<-HT.o];cases gk with
    |zero=>simp[tokF]
    |succ f=>unfold tokF;rw[if_pos oo];simp
   go_wp2_with fail;go_ret;rw[<-HV.o];exact⟨v,rfl,HO.o,HB.o⟩
theorem Zm{s:ByteArray}{k:Nat}(h:k<s.size):pk s k=(s[k].toNat:Int):=by unfold pk;rw[dif_pos h]
def allB(p:UInt8->Bool)(s:ByteArray):Bool:=s.data.toList.all p
def oM(p:UInt8->Bool)(s:ByteArray)(k:Nat):Bool:=(s.data.toList.take k).all p
theorem yG(p:UInt8->Bool){s:ByteArray}{k:Nat}(h:k<s.size):oM p s (k+1)=(oM p s k&&p s[k]):=by
 unfold oM;have h':k<s.data.toList.length:=by simpa using h
 rw[List.take_succ_eq_append_getElem h',List.all_append];simp[ByteArray.getElem_eq_getElem_data]
theorem BG(p:UInt8->Bool)(s:ByteArray):oM p s s.size=allB p s:=by unfold oM allB;rw[List.take_of_length_le (by simp)]
theorem vk(p:UInt8->Bool){s:ByteArray}{k:Nat}(h:k<s.size)(hp:p s[k]=false):allB p s=false:=by
 unfold allB;have h':k<s.data.toList.length:=by simpa using h
 rw[List.all_eq_false];exact⟨s.data.toList[k],List.getElem_mem _,by simpa[ByteArray.getElem_eq_getElem_data]using hp⟩
def ae8(c:UInt8):Bool:=Vf c||c==32
def iI:ug ByteArray:=fun _ _ s cs=>cs=[.string s]/\s.size<=4194304
def Pm:ug (ByteArray×ByteArray):=fun _ _ a cs=>cs=[.string a.1,.string a.2]/\a.1.size<=4194304/\a.2.size<=4194304
def CEl:ug Elem:=fun S w x cs=>∃cv av,cs=[.int .i64 x.parent,.string x.tag,.string x.id,cv,av]/\SG iI 1 S w cv x.classes/\SG Pm 2 S w av x.attrs/\x.tag.size<=4194304/\x.id.size<=4194304 /\ -9223372036854775808<=x.parent/\x.parent<=9223372036854775807
theorem iI.fair:Fair iI:=fun _ _ _ _ _ _ _ _ h=>h
theorem Pm.fair:Fair Pm:=fun _ _ _ _ _ _ _ _ h=>h
theorem iI.sized:qG iI 1:=by rintro S w x cs ⟨rfl,_⟩;rfl
theorem Pm.sized:qG Pm 2:=by rintro S w x cs ⟨rfl,_⟩;rfl
theorem CEl.fair:Fair CEl:=by rintro S S' w w' x cs hS hw ⟨cv,av,h1,h2,h3,h4⟩;exact⟨cv,av,h1,h2.keep iI.fair hS hw,h3.keep Pm.fair hS hw,h4⟩
theorem CEl.sized:qG CEl 5:=by rintro S w x cs ⟨cv,av,rfl,_⟩;rfl
structure afo(S:Nat->Prop)(w:World)(x:Elem)(g o:Nat)(cv av:Value):Prop where
 s:S g
 c0:w.cell? ⟨g,o,none⟩=some (.int .i64 x.parent)
 c1:w.cell? ⟨g,o+1,none⟩=some (.string x.tag)
 c2:w.cell? ⟨g,o+2,none⟩=some (.string x.id)
 c3:w.cell? ⟨g,o+3,none⟩=some cv
 c4:w.cell? ⟨g,o+4,none⟩=some av
 cl:SG iI 1 S w cv x.classes
 at_:SG Pm 2 S w av x.attrs
 tag:x.tag.size<=4194304
 id:x.id.size<=4194304
 lo: -9223372036854775808<=x.parent
 hi:x.parent<=9223372036854775807
theorem LG.str{S:Nat->Prop}{w:World}{l:List ByteArray}{g o i:Nat}(h:LG iI 1 S w l g o)(hi:i<l.length):S g/\w.cell? ⟨g,o+i,none⟩=some (.string l[i])/\l[i].size<=4194304:=by obtain⟨h0,cs,⟨rfl,h2⟩,hc⟩:=h.at l g o i hi;have:=hc 0 _ rfl;rw[Nat.mul_one,Nat.add_zero]at this;exact⟨h0,this,h2⟩
def aeh(c:ByteArray):Bool:=nameP c&&!decide (c=aA)
def afp(a:ByteArray×ByteArray):Bool:=nameP a.1&&Vg a.2&&!decide (a.1=aA)
def aei(i:Nat)(x:Elem):Bool:=if i=0 then x.parent == -1 else decide (0<=x.parent)&&decide (x.parent<i)
def ae9(i:Nat)(x:Elem):Bool:=nameP x.tag&&!decide (x.tag=aA)&&nameP x.id&&decide (x.classes.length<=4)&&decide (x.attrs.length<=4)&&aei i x
section
attribute [local go_sem] dH dI bQ bT
def sgB(s:ByteArray):Bool:=s.toList==[43]||s.toList==[45]||s.toList==[42]||s.toList==[47]||s.toList==[46]||s.toList==[44]||s.toList==[58]||s.toList==[37]||s.toList==[61]||s.toList==[40]||s.toList==[91]||s.toList==[123]
theorem Md(s:ByteArray)(w:World):Calls prog 240 #[.string s] w fun e w'=>e=.returned (.bool (sgB s))/\w'=w:=by
 go_in;go_wp2_with fail;all_goals
  go_ret;refine⟨aI ?_,rfl⟩;first|(simp[sgB, *];done)|(exfalso;simp_all;done)
theorem abl(t:Tok)(h:t.kind=15):sgB t.word=(!decide (closing t=aA)||nJ t.word):=by
 unfold sgB nJ;rw[aH,aH,aH,aH,aH,aH,aH,aH,aH,aH,aH,aH];have hc:closing t=if t.word=b1 40 then b1 41 else if t.word=b1 91 then b1 93 else if t.word=b1 123 then b1 125 else aA:=by unfold closing;rw[if_neg (by rw[h];decide),if_pos h]
 rw[hc];show(decide (t.word=b1 43)||decide (t.word=b1 45)||decide (t.word=b1 42)||decide (t.word=b1 47)||decide (t.word=b1 46)||decide (t.word=b1 44)||decide (t.word=b1 58)||decide (t.word=b1 37)||decide (t.word=b1 61)||decide (t.word=b1 40)||decide (t.word=b1 91)||decide (t.word=b1 123))=_;by_cases h1:t.word=b1 40
 .rw[if_pos h1,decide_eq_true h1];simp[show ¬b1 41=aA by decide]
 .rw[if_neg h1,decide_eq_false h1];by_cases h2:t.word=b1 91
  .rw[if_pos h2,decide_eq_true h2];simp[show ¬b1 93=aA by decide]
  .rw[if_neg h2,decide_eq_false h2];by_cases h3:t.word=b1 123
   .rw[if_pos h3,decide_eq_true h3];simp[show ¬b1 125=aA by decide]
   .rw[if_neg h3,decide_eq_false h3];cases decide (t.word=b1 43)<;>cases decide (t.word=b1 45)<;>cases decide (t.word=b1 42)<;>cases decide (t.word=b1 47)<;>cases decide (t.word=b1 46)<;>cases decide (t.word=b1 44)<;>cases decide (t.word=b1 58)<;>cases decide (t.word=b1 37)<;>cases decide (t.word=b1 61)<;>rfl
end
section
attribute [local go_sem] dH dI bQ bT
theorem Ae(zs:List ByteArray)(x:ByteArray):zs.contains x=zs.any (fun z=>decide (x=z)):=by
 induction zs with
 |nil=>rfl
 |cons z r ih=>
  rw[List.contains_cons,ih,List.any_cons];congr 1
  rw[Bool.eq_iff_iff];obtain⟨xd⟩:=x;obtain⟨zd⟩:=z;show(xd==zd)=true↔decide (_=_)=true;simp
theorem Wh(S:Nat->Prop)(zs:List ByteArray)(v:Value)(x:ByteArray)(w:World)(h:SG iI 1 S w v zs):
  Calls prog 174 #[v,.string x] w fun e w'=>e=.returned (.bool (zs.contains x))/\w'=w:=by
 obtain⟨a,cap,rfl⟩:=h.form;cases zs with
 |nil=>exact Tryz.slices_Contains_string_empty a cap x w
 |cons z r=>
  have hl:=h.len;obtain⟨g,o,rfl,hL,hcap⟩:=h.here (by simp);have:=Tryz.slices_Contains_string g o (z::r).length cap (z::r) x w nl oo (fun j hj=>by have h1:=(hL.str (i:=j) hj).2.1;rw[h1,List.getD_eq_getElem?_getD,List.getElem?_eq_getElem hj];rfl)
  rw[List.take_of_length_le nl,DV,<-Ae]at this;exact this
def dD(p:aS)(pv fv av:Value):Value:=.agg #[.string p.root,pv,fv,av,.bool p.aO,.bool p.texts]
structure iO(B:Nat)(w:World)(p:aS)(pv fv av:Value):Prop where
 props:SG iI 1 (fun b=>b<B) w pv p.props
 au:SG iI 1 (fun b=>b<B) w fv p.au
 ats:SG iI 1 (fun b=>b<B) w av p.ats
 lt:B<=w.heap.size
theorem iO.below{B:Nat}{w w':World}{p:aS}{pv fv av:Value}{g:Nat}(h:iO B w p pv fv av)(hb:Below g w w')(hg:B<=g):iO B w' p pv fv av:=⟨h.props.below iI.fair hb hg,h.au.below iI.fair hb hg,h.ats.below iI.fair hb hg,Nat.le_trans h.lt hb.size⟩
def Q6(w:World)(b:Nat)(x0 x1 x2 x3 x4 x5:Value):Prop:=w.heap[b]?=some (.cells #[x0,x1,x2,x3,x4,x5] 51 (0,0))
section
variable {w w':World} {b:Nat} {x0 x1 x2 x3 x4 x5:Value}
theorem Q6.lt(h:Q6 w b x0 x1 x2 x3 x4 x5):b<w.heap.size:=(Array.getElem?_eq_some_iff.1 h).1
theorem Q6.cs(h:Q6 w b x0 x1 x2 x3 x4 x5):w.cell? ⟨b,0,none⟩=some x0/\w.cell? ⟨b,1,none⟩=some x1/\w.cell? ⟨b,2,none⟩=some x2/\w.cell? ⟨b,3,none⟩=some x3/\w.cell? ⟨b,4,none⟩=some x4/\w.cell? ⟨b,5,none⟩=some x5:=by have h':w.heap[b]?=_:=h;refine⟨?_,?_,?_,?_,?_,?_⟩<;>(unfold World.cell?;rw[h'];rfl)
theorem Q6.below{g:Nat}(h:Q6 w b x0 x1 x2 x3 x4 x5)(hb:Below g w w')(hg:b<g):Q6 w' b x0 x1 x2 x3 x4 x5:=by show _=_;rw[hb.block b hg];exact h
theorem Q6.new(w:World)(x0 x1 x2 x3 x4 x5:Value):Q6 (w.alloc (.cells #[x0,x1,x2,x3,x4,x5] 51)) w.heap.size x0 x1 x2 x3 x4 x5:=heap_alloc_new w _
theorem Q6.nb(p:aS)(pa fa aa:Option Addr)(pc fc ac:Nat)(w:World):Hid (Below w.heap.size w (w.alloc (.cells #[.string p.root,.slice pa p.props.length pc,.slice fa p.au.length fc,.slice aa p.ats.length ac,.bool p.aO,.bool p.texts] 51)))/\Hid (Q6 (w.alloc (.cells #[.string p.root,.slice pa p.props.length pc,.slice fa p.au.length fc,.slice aa p.ats.length ac,.bool p.aO,.bool p.texts] 51)) w.heap.size (.string p.root) (.slice pa p.props.length pc) (.slice fa p.au.length fc) (.slice aa p.ats.length ac) (.bool p.aO) (.bool p.texts)):=⟨(Below.refl _ _).alloc nl _,Q6.new _ _ _ _ _ _ _⟩
theorem Q6.alloc(h:Q6 w b x0 x1 x2 x3 x4 x5)(o:Obj):Q6 (w.alloc o) b x0 x1 x2 x3 x4 x5:=h.below ((Below.refl _ _).alloc nl _) h.lt
end
section
variable (p:aS) (pa fa aa:Option Addr) (pl pc fl fc al ac:Nat) (wd un:ByteArray) (ka:Option Addr) (kl kc:Nat) (w:World)
theorem fH(o1 o2:Obj):Below w.heap.size w ((w.alloc o1).alloc o2):=((Below.refl _ _).alloc nl _).alloc (by simp) _
theorem ac4:Calls prog 175 #[dD p (.slice pa pl pc) (.slice fa fl fc) (.slice aa al ac),.agg #[.int .i64 2,.string wd,.string un,.slice ka kl kc]] w fun e w'=>e=.returned (.bool p.texts)/\Below w.heap.size w w':=by have B2:Hid (Below w.heap.size w ((w.alloc (.cells #[.string p.root,.slice pa pl pc,.slice fa fl fc,.slice aa al ac,.bool p.aO,.bool p.texts] 51)).alloc (.cells #[.int .i64 2,.string wd,.string un,.slice ka kl kc] 168))):=fH _ _ _;unfold dD;go_in;go_wp2_with fail;go_ret;exact⟨rfl,B2.o⟩
theorem ac5:Calls prog 175 #[dD p (.slice pa pl pc) (.slice fa fl fc) (.slice aa al ac),.agg #[.int .i64 1,.string wd,.string un,.slice ka kl kc]] w fun e w'=>e=.returned (.bool true)/\Below w.heap.size w w':=by have B2:Hid (Below w.heap.size w ((w.alloc (.cells #[.string p.root,.slice pa pl pc,.slice fa fl fc,.slice aa al ac,.bool p.aO,.bool p.texts] 51)).alloc (.cells #[.int .i64 1,.string wd,.string un,.slice ka kl kc] 168))):=fH _ _ _;unfold dD;go_in;go_wp2_with fail;go_ret;exact⟨rfl,B2.o⟩
theorem ac6:Calls prog 175 #[dD p (.slice pa pl pc) (.slice fa fl fc) (.slice aa al ac),.agg #[.int .i64 4,.string wd,.string un,.slice ka kl kc]] w fun e w'=>e=.returned (.bool true)/\Below w.heap.size w w':=by have B2:Hid (Below w.heap.size w ((w.alloc (.cells #[.string p.root,.slice pa pl pc,.slice fa fl fc,.slice aa al ac,.bool p.aO,.bool p.texts] 51)).alloc (.cells #[.int .i64 4,.string wd,.string un,.slice ka kl kc] 168))):=fH _ _ _;unfold dD;go_in;go_wp2_with fail;go_ret;exact⟨rfl,B2.o⟩
theorem ac7:Calls prog 175 #[dD p (.slice pa pl pc) (.slice fa fl fc) (.slice aa al ac),.agg #[.int .i64 5,.string wd,.string un,.slice ka kl kc]] w fun e w'=>e=.returned (.bool true)/\Below w.heap.size w w':=by have B2:Hid (Below w.heap.size w ((w.alloc (.cells #[.string p.root,.slice pa pl pc,.slice fa fl fc,.slice aa al ac,.bool p.aO,.bool p.texts] 51)).alloc (.cells #[.int .i64 5,.string wd,.string un,.slice ka kl kc] 168))):=fH _ _ _;unfold dD;go_in;go_wp2_with fail;go_ret;exact⟨rfl,B2.o⟩
theorem ac8:Calls prog 175 #[dD p (.slice pa pl pc) (.slice fa fl fc) (.slice aa al ac),.agg #[.int .i64 6,.string wd,.string un,.slice ka kl kc]] w fun e w'=>e=.returned (.bool true)/\Below w.heap.size w w':=by have B2:Hid (Below w.heap.size w ((w.alloc (.cells #[.string p.root,.slice pa pl pc,.slice fa fl fc,.slice aa al ac,.bool p.aO,.bool p.texts] 51)).alloc (.cells #[.int .i64 6,.string wd,.string un,.slice ka kl kc] 168))):=fH _ _ _;unfold dD;go_in;go_wp2_with fail;go_ret;exact⟨rfl,B2.o⟩
theorem ac9:Calls prog 175 #[dD p (.slice pa pl pc) (.slice fa fl fc) (.slice aa al ac),.agg #[.int .i64 7,.string wd,.string un,.slice ka kl kc]] w fun e w'=>e=.returned (.bool true)/\Below w.heap.size w w':=by have B2:Hid (Below w.heap.size w ((w.alloc (.cells #[.string p.root,.slice pa pl pc,.slice fa fl fc,.slice aa al ac,.bool p.aO,.bool p.texts] 51)).alloc (.cells #[.int .i64 7,.string wd,.string un,.slice ka kl kc] 168))):=fH _ _ _;unfold dD;go_in;go_wp2_with fail;go_ret;exact⟨rfl,B2.o⟩
theorem abm:Calls prog 175 #[dD p (.slice pa pl pc) (.slice fa fl fc) (.slice aa al ac),.agg #[.int .i64 14,.string wd,.string un,.slice ka kl kc]] w fun e w'=>e=.returned (.bool true)/\Below w.heap.size w w':=by have B2:Hid (Below w.heap.size w ((w.alloc (.cells #[.string p.root,.slice pa pl pc,.slice fa fl fc,.slice aa al ac,.bool p.aO,.bool p.texts] 51)).alloc (.cells #[.int .i64 14,.string wd,.string un,.slice ka kl kc] 168))):=fH _ _ _;unfold dD;go_in;go_wp2_with fail;go_ret;exact⟨rfl,B2.o⟩
theorem ada:Calls prog 175 #[dD p (.slice pa pl pc) (.slice fa fl fc) (.slice aa al ac),.agg #[.int .i64 3,.string wd,.string un,.slice ka kl kc]] w fun e w'=>e=.returned (.bool false)/\Below w.heap.size w w':=by have B2:Hid (Below w.heap.size w ((w.alloc (.cells #[.string p.root,.slice pa pl pc,.slice fa fl fc,.slice aa al ac,.bool p.aO,.bool p.texts] 51)).alloc (.cells #[.int .i64 3,.string wd,.string un,.slice ka kl kc] 168))):=fH _ _ _;unfold dD;go_in;go_wp2_with fail;go_ret;exact⟨rfl,B2.o⟩
theorem adb:Calls prog 175 #[dD p (.slice pa pl pc) (.slice fa fl fc) (.slice aa al ac),.agg #[.int .i64 8,.string wd,.string un,.slice ka kl kc]] w fun e w'=>e=.returned (.bool false)/\Below w.heap.size w w':=by have B2:Hid (Below w.heap.size w ((w.alloc (.cells #[.string p.root,.slice pa pl pc,.slice fa fl fc,.slice aa al ac,.bool p.aO,.bool p.texts] 51)).alloc (.cells #[.int .i64 8,.string wd,.string un,.slice ka kl kc] 168))):=fH _ _ _;unfold dD;go_in;go_wp2_with fail;go_ret;exact⟨rfl,B2.o⟩
theorem ade:Calls prog 175 #[dD p (.slice pa pl pc) (.slice fa fl fc) (.slice aa al ac),.agg #[.int .i64 9,.string wd,.string un,.slice ka kl kc]] w fun e w'=>e=.returned (.bool false)/\Below w.heap.size w w':=by have B2:Hid (Below w.heap.size w ((w.alloc (.cells #[.string p.root,.slice pa pl pc,.slice fa fl fc,.slice aa al ac,.bool p.aO,.bool p.texts] 51)).alloc (.cells #[.int .i64 9,.string wd,.string un,.slice ka kl kc] 168))):=fH _ _ _;unfold dD;go_in;go_wp2_with fail;go_ret;exact⟨rfl,B2.o⟩
theorem abn:Calls prog 175 #[dD p (.slice pa pl pc) (.slice fa fl fc) (.slice aa al ac),.agg #[.int .i64 10,.string wd,.string un,.slice ka kl kc]] w fun e w'=>e=.returned (.bool false)/\Below w.heap.size w w':=by have B2:Hid (Below w.heap.size w ((w.alloc (.cells #[.string p.root,.slice pa pl pc,.slice fa fl fc,.slice aa al ac,.bool p.aO,.bool p.texts] 51)).alloc (.cells #[.int .i64 10,.string wd,.string un,.slice ka kl kc] 168))):=fH _ _ _;unfold dD;go_in;go_wp2_with fail;go_ret;exact⟨rfl,B2.o⟩
theorem abo:Calls prog 175 #[dD p (.slice pa pl pc) (.slice fa fl fc) (.slice aa al ac),.agg #[.int .i64 12,.string wd,.string un,.slice ka kl kc]] w fun e w'=>e=.returned (.bool false)/\Below w.heap.size w w':=by have B2:Hid (Below w.heap.size w ((w.alloc (.cells #[.string p.root,.slice pa pl pc,.slice fa fl fc,.slice aa al ac,.bool p.aO,.bool p.texts] 51)).alloc (.cells #[.int .i64 12,.string wd,.string un,.slice ka kl kc] 168))):=fH _ _ _;unfold dD;go_in;go_wp2_with fail;go_ret;exact⟨rfl,B2.o⟩
theorem abp:Calls prog 175 #[dD p (.slice pa pl pc) (.slice fa fl fc) (.slice aa al ac),.agg #[.int .i64 13,.string wd,.string un,.slice ka kl kc]] w fun e w'=>e=.returned (.bool false)/\Below w.heap.size w w':=by have B2:Hid (Below w.heap.size w ((w.alloc (.cells #[.string p.root,.slice pa pl pc,.slice fa fl fc,.slice aa al ac,.bool p.aO,.bool p.texts] 51)).alloc (.cells #[.int .i64 13,.string wd,.string un,.slice ka kl kc] 168))):=fH _ _ _;unfold dD;go_in;go_wp2_with fail;go_ret;exact⟨rfl,B2.o⟩
theorem abq:Calls prog 175 #[dD p (.slice pa pl pc) (.slice fa fl fc) (.slice aa al ac),.agg #[.int .i64 15,.string wd,.string un,.slice ka kl kc]] w fun e w'=>e=.returned (.bool (sgB wd))/\Below w.heap.size w w':=by have B2:Hid (Below w.heap.size w ((w.alloc (.cells #[.string p.root,.slice pa pl pc,.slice fa fl fc,.slice aa al ac,.bool p.aO,.bool p.texts] 51)).alloc (.cells #[.int .i64 15,.string wd,.string un,.slice ka kl kc] 168))):=fH _ _ _;unfold dD;go_in;go_wp2_with fail;refine pmb (Md wd _) fun wq hwq=>?_;rw[hwq];go_wp2_with fail;go_ret;exact⟨rfl,B2.o⟩
end
end
section
attribute [local go_sem] dH dI bQ bT
theorem Q6.drew{w:World}{b:Nat}{x0 x1 x2 x3 x4 x5:Value}(h:Q6 w b x0 x1 x2 x3 x4 x5):Q6 w.drew b x0 x1 x2 x3 x4 x5:=h
theorem abr(B:Nat)(p:aS)(pa fa aa:Option Addr)(pl pc fc al ac:Nat)(wd un:ByteArray)(ka:Option Addr)(kl kc:Nat)(w:World)(hf:SG iI 1 (fun b=>b<B) w (.slice fa p.au.length fc) p.au)(hB:B<=w.heap.size)(hw:wd.size<=4000000):
  Calls prog 175 #[dD p (.slice pa pl pc) (.slice fa p.au.length fc) (.slice aa al ac),.agg #[.int .i64 11,.string wd,.string un,.slice ka kl kc]] w fun e w'=>e=.returned (.bool (p.au.contains (small wd)))/\Below w.heap.size w w':=by
 have B2:Hid (Below w.heap.size w ((w.alloc (.cells #[.string p.root,.slice pa pl pc,.slice fa p.au.length fc,.slice aa al ac,.bool p.aO,.bool p.texts] 51)).alloc (.cells #[.int .i64 11,.string wd,.string un,.slice ka kl kc] 168)).drew):=(fH w _ _).drew;have P2:Hid (Q6 ((w.alloc (.cells #[.string p.root,.slice pa pl pc,.slice fa p.au.length fc,.slice aa al ac,.bool p.aO,.bool p.texts] 51)).alloc (.cells #[.int .i64 11,.string wd,.string un,.slice ka kl kc] 168)).drew w.heap.size (.string p.root) (.slice pa pl pc) (.slice fa p.au.length fc) (.slice aa al ac) (.bool p.aO) (.bool p.texts)):=(Q6.new w _ _ _ _ _ _).alloc _
 have A2:Hid (VB ((w.alloc (.cells #[.string p.root,.slice pa pl pc,.slice fa p.au.length fc,.slice aa al ac,.bool p.aO,.bool p.texts] 51)).alloc (.cells #[.int .i64 11,.string wd,.string un,.slice ka kl kc] 168)).drew (w.heap.size+1) (.int .i64 11) (.string wd) (.string un) (.slice ka kl kc)):=by have:=VB.new (w.alloc (.cells #[.string p.root,.slice pa pl pc,.slice fa p.au.length fc,.slice aa al ac,.bool p.aO,.bool p.texts] 51)) (.int .i64 11) (.string wd) (.string un) (.slice ka kl kc);rw[show(w.alloc (.cells #[.string p.root,.slice pa pl pc,.slice fa p.au.length fc,.slice aa al ac,.bool p.aO,.bool p.texts] 51)).heap.size=w.heap.size+1 by simp]at this;exact this
 have F2:Hid (SG iI 1 (fun b=>b<B) ((w.alloc (.cells #[.string p.root,.slice pa pl pc,.slice fa p.au.length fc,.slice aa al ac,.bool p.aO,.bool p.texts] 51)).alloc (.cells #[.int .i64 11,.string wd,.string un,.slice ka kl kc] 168)).drew (.slice fa p.au.length fc) p.au):=hf.below iI.fair B2.o hB;clear hf;unfold dD;go_in;go_wp2_with fail;refine wp_region_any (by kernel_rfl) ?_;change wpAny _ _ _ _ _ _ _ (World.drew _);generalize((w.alloc (.cells #[.string p.root,.slice pa pl pc,.slice fa p.au.length fc,.slice aa al ac,.bool p.aO,.bool p.texts] 51)).alloc (.cells #[.int .i64 11,.string wd,.string un,.slice ka kl kc] 168)).drew=w2 at *;have hs2:=B2.o.size
 have KJ:Hid (Q6 w2 w.heap.size (.string p.root) (.slice pa pl pc) (.slice fa p.au.length fc) (.slice aa al ac) (.bool p.aO) (.bool p.texts)/\VB w2 (w.heap.size+1) (.int .i64 11) (.string wd) (.string un) (.slice ka kl kc)):=⟨P2.o,A2.o⟩;refine wpAny_of_held (S:=fun wx=>Q6 wx w.heap.size (.string p.root) (.slice pa pl pc) (.slice fa p.au.length fc) (.slice aa al ac) (.bool p.aO) (.bool p.texts)/\VB wx (w.heap.size+1) (.int .i64 11) (.string wd) (.string un) (.slice ka kl kc)) _ _ _ _ ?_;refine bY 0 rfl KJ.o (by intro w hSw;obtain⟨a0,a1,a2,a3,a4,a5⟩:=hSw.1.cs;exact gs) ?_;refine bY 1 rfl KJ.o (by intro w hSw;obtain⟨a0,a1,a2,a3,a4,a5⟩:=hSw.1.cs;exact gs) ?_;refine bY 2 rfl KJ.o (by intro w hSw;obtain⟨a0,a1,a2,a3,a4,a5⟩:=hSw.1.cs;exact gs) ?_
 refine bY 3 rfl KJ.o (by intro w hSw;obtain⟨a0,a1,a2,a3⟩:=hSw.2.cs;exact gs) ?_;refine bY 4 rfl KJ.o (by intro w hSw;obtain⟨a0,a1,a2,a3⟩:=hSw.2.cs;exact gs) ?_;refine bY 5 rfl KJ.o (by intro w hSw;obtain⟨a0,a1,a2,a3⟩:=hSw.2.cs;exact gs) ?_;refine jh 6 fun K hK=>?_;go_simp;refine pmb (oH wd _ hw) fun w3 hb3=>?_;have B3:Hid (Below w.heap.size w w3):=B2.o.trans (hb3.mono hs2);have JD:Hid (Q6 w3 w.heap.size (.string p.root) (.slice pa pl pc) (.slice fa p.au.length fc) (.slice aa al ac) (.bool p.aO) (.bool p.texts)/\VB w3 (w.heap.size+1) (.int .i64 11) (.string wd) (.string un) (.slice ka kl kc)):=⟨KJ.o.1.below hb3 KJ.o.1.lt,KJ.o.2.below hb3⟩;have F3:Hid (SG iI 1 (fun b=>b<B) w3 (.slice fa p.au.length fc) p.au):=F2.o.below iI.fair hb3 oo;clear hb3
 refine hK.o _ _ JD.o (fun _=>?_);clear hK K;refine jh 7 fun K hK=>?_;go_simp;refine pmb (Wh _ p.au _ (small wd) w3 F3.o) fun w4 hw4=>?_;rw[hw4];refine hK.o _ _ JD.o (fun _=>?_);clear hK K;refine jh 8 fun K hK=>?_;go_simp;refine hK.o _ _ (JD.o) (fun _=>?_);clear hK K;refine wpAnyH_done (by kernel_rfl) ?_ _;go_wp2_with fail;go_ret;exact⟨rfl,B3.o⟩
def Me(t:Tok):Bool:=decide (1<=t.kind)&&decide (t.kind<=15)
def JR(l:List Nd):Prop:=zD (fun t=>!Me t) l=false
theorem IV(g:Tok->Bool)(n:Nd)(r:List Nd):zD g (n::r)=(g n.t||zD g n.kids||zD g r):=by
 obtain⟨t,k⟩:=n;conv=>lhs;unfold zD;unfold YS
 rfl
theorem EZ{n:Nd}{r:List Nd}(h:JR (n::r)):Me n.t=true/\JR n.kids/\JR r:=by unfold JR at h;rw[IV]at h;simp only[Bool.or_eq_false_iff,Bool.not_eq_false']at h;exact⟨h.1.1,h.1.2,h.2⟩
theorem mW(p:aS)(n:Nd)(r:List Nd):bV p (n::r)=(fE p n.t&&bV p n.kids&&bV p r):=by unfold bV;rw[IV];cases fE p n.t<;>simp
theorem Zn(B:Nat)(p:aS)(pv fv av:Value)(t:Tok)(ka:Option Addr)(kl kc:Nat)(w:World)(h:iO B w p pv fv av)(hk:Me t=true)(hw:t.word.size<=4000000):
  Calls prog 175 #[dD p pv fv av,dM t (.slice ka kl kc)] w fun e w'=>e=.returned (.bool (fE p t))/\Below w.heap.size w w':=by
 obtain⟨pa,pc,rfl⟩:=h.props.form;obtain⟨fa,fc,rfl⟩:=h.au.form;obtain⟨aa,ac,rfl⟩:=h.ats.form;obtain⟨kd,wd,un⟩:=t;unfold Me at hk;simp only[Bool.and_eq_true,decide_eq_true_eq]at hk;unfold dM;rcases(show kd=1\/kd=2\/kd=3\/kd=4\/kd=5\/kd=6\/kd=7\/kd=8\/kd=9\/kd=10\/kd=11\/kd=12\/kd=13\/kd=14\/kd=15 by omega)with e|e|e|e|e|e|e|e|e|e|e|e|e|e|e<;>subst e
 .exact ac5 _ _ _ _ _ _ _ _ _ _ _ _ _ _ _ w
 .exact ac4 _ _ _ _ _ _ _ _ _ _ _ _ _ _ _ w
 .exact ada _ _ _ _ _ _ _ _ _ _ _ _ _ _ _ w
 .exact ac6 _ _ _ _ _ _ _ _ _ _ _ _ _ _ _ w
 .exact ac7 _ _ _ _ _ _ _ _ _ _ _ _ _ _ _ w
 .exact ac8 _ _ _ _ _ _ _ _ _ _ _ _ _ _ _ w
 .exact ac9 _ _ _ _ _ _ _ _ _ _ _ _ _ _ _ w
 .exact adb _ _ _ _ _ _ _ _ _ _ _ _ _ _ _ w
 .exact ade _ _ _ _ _ _ _ _ _ _ _ _ _ _ _ w
 .exact abn _ _ _ _ _ _ _ _ _ _ _ _ _ _ _ w
 .exact abr B p _ _ _ _ _ _ _ _ _ _ _ _ _ w h.au h.lt hw
 .exact abo _ _ _ _ _ _ _ _ _ _ _ _ _ _ _ w
 .exact abp _ _ _ _ _ _ _ _ _ _ _ _ _ _ _ w
 .exact abm _ _ _ _ _ _ _ _ _ _ _ _ _ _ _ w
 .have e:=abl ⟨15,wd,un⟩ rfl;have e2:fE p ⟨15,wd,un⟩=sgB wd:=by show(!decide (closing ⟨15,wd,un⟩=aA)||nJ wd)=_;exact e.symm
  rw[e2];exact abq _ _ _ _ _ _ _ _ _ _ _ _ _ _ _ w
end
end Go.Proofs.YtlliliddljkbfaaGreatDoor
