import Derived.Test.YtlliliddljkbfaaGreatDoorC1
import Derived.Test.YtlliliddljkbfaaGreatDoorC2
import Derived.Test.YtlliliddljkbfaaGreatDoorC5
import Derived.Test.YtlliliddljkbfaaGreatDoorC10
import Derived.Test.YtlliliddljkbfaaGreatDoorC19
import Derived.Conc.LoneCalls
import Derived.Deep.LoopGhost
namespace Go.Proofs.YtlliliddljkbfaaGreatDoor
set_option maxHeartbeats 64000000
set_option maxRecDepth 100000
open Go.Proofs.Tryz (prog)
open Go.RowKit Sp
def Oq(l:List UInt8):List Value:=l.map fun b=>Value.int .u8 (b.toNat:Int)
theorem qj(a b:List UInt8):Oq (a++b)=Oq a++Oq b:=by simp[Oq]
theorem ql(n:Int):∀u∈[Value.int .u8 n],u.oneCell'=true:=by simp[Value.oneCell']
theorem Zj(s:ByteArray)(i:Nat):(U1 s i).length<=1:=by
 unfold U1;split
 .split
  .simp
  .split
   .simp
   .split<;>simp
 .simp
theorem vg(s:ByteArray):∀k,(aZ s k).length<=k
 |0=>by simp[aZ]
 |k+1=>by have:=vg s k;have:=Zj s k;simp[aZ];omega
theorem oD(s:ByteArray):(clean s).size<=s.size:=by have:=vg s s.size;show(aZ s s.size).toArray.size<=s.size;simpa using this
theorem byte_at{s:ByteArray}{k:Nat}(h:k<s.size)(n:Nat)(hn:n<256):s[k]=UInt8.ofNat n↔pk s k=(n:Int):=by
 rw[Iy h];constructor
 .intro e;rw[e];simp;omega
 .intro e;apply UInt8.toNat_inj.1
  simp;omega
theorem b13{s:ByteArray}{k:Nat}(h:k<s.size):s[k]=13↔pk s k=13:=byte_at h 13 oo
theorem b12{s:ByteArray}{k:Nat}(h:k<s.size):s[k]=12↔pk s k=12:=byte_at h 12 oo
theorem b00{s:ByteArray}{k:Nat}(h:k<s.size):s[k]=0↔pk s k=0:=byte_at h 0 oo
theorem JO{s:ByteArray}{k:Nat}(h:k<s.size):U1 s k=if pk s k=13/\pk s (k+1)=10 then [] else if pk s k=13\/pk s k=12 then [10] else if pk s k=0 then [63] else [s[k]]:=by unfold U1;rw[dif_pos h];simp only[b13 h,b12 h,b00 h]
theorem LZ{s:ByteArray}{k:Nat}(h:k<s.size)(h1:pk s k=13)(h2:pk s (k+1)=10):U1 s k=[]:=by rw[JO h,if_pos ⟨h1,h2⟩]
theorem qZ{s:ByteArray}{k:Nat}(h:k<s.size)(h1:pk s k=13\/pk s k=12)(h2:¬(pk s k=13/\pk s (k+1)=10)):U1 s k=[10]:=by rw[JO h,if_neg h2,if_pos h1]
theorem Rq{s:ByteArray}{k:Nat}(h:k<s.size)(h1:pk s k=0):U1 s k=[63]:=by rw[JO h,if_neg oo,if_neg oo,if_pos h1]
theorem L8{s:ByteArray}{k:Nat}(h:k<s.size)(h1:pk s k≠13)(h2:pk s k≠12)(h3:pk s k≠0):U1 s k=[s[k]]:=by rw[JO h,if_neg oo,if_neg oo,if_neg h3]
theorem Zk(s:ByteArray)(w:World)(hs:s.size<=600):
  Calls prog 93 #[.string s] w fun e w'=>e=.returned (.string (Sp.clean s))/\Below w.heap.size w w':=by
 obtain⟨iU,hiU,hzU,hsU,hbU⟩:=Jz;have HI:Hid (prog.info? 5=some iU/\iU.zero=some (.int .u8 0)/\iU.size=1/\iU.bytes=1):=⟨hiU,hzU,hsU,hbU⟩;clear hiU hzU hsU hbU;go_in;go_wp2_with(at_make;refine wpList_make_own _ rfl _ _ 182 rfl w.heap.size 5 iU (.int .u8 0) 1 Tryz.underlying182 HI.o.1 HI.o.2.1 HI.o.2.2.1 _ _ _ s.size rfl rfl rfl ?_ ?_ ?_ ?_)
 .rw[HI.o.2.2.2];omega
 .unfold maxLen;omega
 .exact Nat.le_refl _
 intro w1 hown1 Lu;have HB1:Hid (Below w.heap.size w w1):=(Below.refl _ _).grown Lu nl (fun _ h=>by cases h);have qK:Hid (w1.ownsRow w.heap.size 5 1 (.slice (some ⟨w.heap.size,0,none⟩) 0 s.size) 0 []):=hown1;clear hown1 Lu;go_wp2_with fail;go_loopg[3,11] s.size (fun g v3 v11 wr=>∃(v:Value) (k:Nat),v=v3/\k+g=s.size/\v11=.int .i64 (k:Int)/\Aside (wr.ownsRow w.heap.size 5 1 v (aZ s k).length (Oq (aZ s k))/\Below w.heap.size w wr));case atStart=>exact⟨_,0,rfl,oo,rfl,qK.o,HB1.o⟩
 case round=>
  obtain⟨v3,k,rfl,hk,rfl,hA⟩:=hrel;have HO:Hid (wr.ownsRow w.heap.size 5 1 v3 (aZ s k).length (Oq (aZ s k))):=hA.o.1;have HB:Hid (Below w.heap.size w wr):=hA.o.2;clear hA;have hcl:=vg s k;by_cases hlt:k<s.size
  .have hix:=aV s k hlt;have hsz:=HB.o.size;have hnn:=tV hlt;have hhi:=D7 s k;have HT:Hid (aZ s (k+1)=aZ s k++U1 s k):=rfl;by_cases h13:pk s k=13
   .have e1:(pk s k==13)=true:=by rw[h13];rfl
    by_cases hnx:k+1<s.size
    .have abj:(k:Int)+1<(s.size:Int):=oo;have hix2:∀w:World,(Instr.index 9 (.string s) (.int .i64 ((k:Int)+1))).run prog w=.ok (.int .u8 (pk s (k+1))) w:=fun w=>aV s (k+1) hnx w;by_cases h10:pk s (k+1)=10
     .have e2:(pk s (k+1)==10)=true:=by rw[h10];rfl
      have HC:Hid (aZ s (k+1)=aZ s k):=by show _=_;rw[HT.o,LZ hlt h13 h10,List.append_nil]
      clear h13 h10;go_wp2_with fail;go_roundg(gk-1);case measure=>omega
      case rel=>exact⟨v3,k+1,rfl,oo,by congr 1,by rw[HC.o];exact HO.o,HB.o⟩
     .have e2:(pk s (k+1)==10)=false:=by simpa using h10
      have HC:Hid (aZ s (k+1)=aZ s k++[10]):=by show _=_;rw[HT.o,qZ hlt (.inl h13) (fun h=>h10 h.2)]
      clear h13 h10;go_wp2_with(at_builtin;refine wpList_append_own _ rfl _ _ 182 rfl w.heap.size 5 iU (.int .u8 0) 1 1 Tryz.underlying182 HI.o.1 HI.o.2.1 HI.o.2.2.1 HI.o.2.2.2 rfl oo v3 (aZ s k).length (Oq (aZ s k)) rfl (HO.o.alloc _) ⟨wr.heap.size,0,none⟩ 1 1 [.int .u8 (10)] rfl rfl (cell_one_new _ _ _) (ql _) ?_ ?_ ?_ ?_)
      .unfold maxLen;omega
      .omega
      .first|omega|(simp;omega)
      intro v4 w2 hown2 jC _;have Bh:Hid (w2.ownsRow w.heap.size 5 1 v4 ((aZ s k).length+1) (Oq (aZ s k)++[.int .u8 (10)])):=hown2;have HB2:Hid (Below w.heap.size w w2):=(HB.o.alloc hsz _).grown jC (by first|omega|(simp;omega)) (fun r hr=>(HO.o.lt r hr).1);clear hown2 jC;go_wp2_with fail;go_roundg(gk-1);case measure=>omega
      case rel=>refine⟨v4,k+1,rfl,oo,by congr 1,?_,HB2.o⟩;rw[HC.o,qj,List.length_append];exact Bh.o
    .have abj:(s.size:Int)<=(k:Int)+1:=oo;have HC:Hid (aZ s (k+1)=aZ s k++[10]):=by show _=_;rw[HT.o,qZ hlt (.inl h13) (fun h=>by have:=dX (s:=s) (i:=k+1) oo;omega)]
     clear h13;go_wp2_with(at_builtin;refine wpList_append_own _ rfl _ _ 182 rfl w.heap.size 5 iU (.int .u8 0) 1 1 Tryz.underlying182 HI.o.1 HI.o.2.1 HI.o.2.2.1 HI.o.2.2.2 rfl oo v3 (aZ s k).length (Oq (aZ s k)) rfl (HO.o.alloc _) ⟨wr.heap.size,0,none⟩ 1 1 [.int .u8 (10)] rfl rfl (cell_one_new _ _ _) (ql _) ?_ ?_ ?_ ?_)
     .unfold maxLen;omega
     .omega
     .first|omega|(simp;omega)
     intro v4 w2 hown2 jC _;have Bh:Hid (w2.ownsRow w.heap.size 5 1 v4 ((aZ s k).length+1) (Oq (aZ s k)++[.int .u8 (10)])):=hown2;have HB2:Hid (Below w.heap.size w w2):=(HB.o.alloc hsz _).grown jC (by first|omega|(simp;omega)) (fun r hr=>(HO.o.lt r hr).1);clear hown2 jC;go_wp2_with fail;go_roundg(gk-1);case measure=>omega
     case rel=>refine⟨v4,k+1,rfl,oo,by congr 1,?_,HB2.o⟩;rw[HC.o,qj,List.length_append];exact Bh.o
   .have e1:(pk s k==13)=false:=by simpa using h13
    by_cases h12:pk s k=12
    .have e2:(pk s k==12)=true:=by rw[h12];rfl
     have HC:Hid (aZ s (k+1)=aZ s k++[10]):=by show _=_;rw[HT.o,qZ hlt (.inr h12) (fun h=>h13 h.1)]
     clear h13 h12;go_wp2_with(at_builtin;refine wpList_append_own _ rfl _ _ 182 rfl w.heap.size 5 iU (.int .u8 0) 1 1 Tryz.underlying182 HI.o.1 HI.o.2.1 HI.o.2.2.1 HI.o.2.2.2 rfl oo v3 (aZ s k).length (Oq (aZ s k)) rfl (HO.o.alloc _) ⟨wr.heap.size,0,none⟩ 1 1 [.int .u8 (10)] rfl rfl (cell_one_new _ _ _) (ql _) ?_ ?_ ?_ ?_)
     .unfold maxLen;omega
     .omega
     .first|omega|(simp;omega)
     intro v4 w2 hown2 jC _;have Bh:Hid (w2.ownsRow w.heap.size 5 1 v4 ((aZ s k).length+1) (Oq (aZ s k)++[.int .u8 (10)])):=hown2;have HB2:Hid (Below w.heap.size w w2):=(HB.o.alloc hsz _).grown jC (by first|omega|(simp;omega)) (fun r hr=>(HO.o.lt r hr).1);clear hown2 jC;go_wp2_with fail;go_roundg(gk-1);case measure=>omega
     case rel=>refine⟨v4,k+1,rfl,oo,by congr 1,?_,HB2.o⟩;rw[HC.o,qj,List.length_append];exact Bh.o
    .have e2:(pk s k==12)=false:=by simpa using h12
     by_cases h0:pk s k=0
     .have e3:(pk s k==0)=true:=by rw[h0];rfl
      have HC:Hid (aZ s (k+1)=aZ s k++[63]):=by show _=_;rw[HT.o,Rq hlt h0]
      clear h13 h12 h0;go_wp2_with(at_builtin;refine wpList_append_own _ rfl _ _ 182 rfl w.heap.size 5 iU (.int .u8 0) 1 1 Tryz.underlying182 HI.o.1 HI.o.2.1 HI.o.2.2.1 HI.o.2.2.2 rfl oo v3 (aZ s k).length (Oq (aZ s k)) rfl (HO.o.alloc _) ⟨wr.heap.size,0,none⟩ 1 1 [.int .u8 (63)] rfl rfl (cell_one_new _ _ _) (ql _) ?_ ?_ ?_ ?_)
      .unfold maxLen;omega
      .omega
      .first|omega|(simp;omega)
      intro v4 w2 hown2 jC _;have Bh:Hid (w2.ownsRow w.heap.size 5 1 v4 ((aZ s k).length+1) (Oq (aZ s k)++[.int .u8 (63)])):=hown2;have HB2:Hid (Below w.heap.size w w2):=(HB.o.alloc hsz _).grown jC (by first|omega|(simp;omega)) (fun r hr=>(HO.o.lt r hr).1);clear hown2 jC;go_wp2_with fail;go_roundg(gk-1);case measure=>omega
      case rel=>refine⟨v4,k+1,rfl,oo,by congr 1,?_,HB2.o⟩;rw[HC.o,qj,List.length_append];exact Bh.o
     .have e3:(pk s k==0)=false:=by simpa using h0
      have HC:Hid (aZ s (k+1)=aZ s k++[s[k]]):=by show _=_;rw[HT.o,L8 hlt h13 h12 h0]
      have HP:Hid (pk s k=(s[k].toNat:Int)):=Iy hlt;clear h13 h12 h0;go_wp2_with(at_builtin;refine wpList_append_own _ rfl _ _ 182 rfl w.heap.size 5 iU (.int .u8 0) 1 1 Tryz.underlying182 HI.o.1 HI.o.2.1 HI.o.2.2.1 HI.o.2.2.2 rfl oo v3 (aZ s k).length (Oq (aZ s k)) rfl (HO.o.alloc _) ⟨wr.heap.size,0,none⟩ 1 1 [.int .u8 (pk s k)] rfl rfl (cell_one_new _ _ _) (ql _) ?_ ?_ ?_ ?_)
      .unfold maxLen;omega
      .omega
      .first|omega|(simp;omega)
      intro v4 w2 hown2 jC _;have Bh:Hid (w2.ownsRow w.heap.size 5 1 v4 ((aZ s k).length+1) (Oq (aZ s k)++[.int .u8 (pk s k)])):=hown2;have HB2:Hid (Below w.heap.size w w2):=(HB.o.alloc hsz _).grown jC (by first|omega|(simp;omega)) (fun r hr=>(HO.o.lt r hr).1);clear hown2 jC;go_wp2_with fail;go_roundg(gk-1);case measure=>omega
      case rel=>refine⟨v4,k+1,rfl,oo,by congr 1,?_,HB2.o⟩;rw[HC.o,qj,List.length_append];have h2:=Bh.o;rw[HP.o]at h2;exact h2
  .have hcv:(convert 182 9 v3).run prog wr=.ok (.string (Sp.clean s)) wr:=by
    have e:k=s.size:=oo;have h1:=HO.o;rw[e]at h1;exact Eh (P:=prog) wr 182 9 5 Tryz.underlying182 Tryz.underlying5 Tryz.underlying9 (aZ s s.size) h1
   go_wp2_with fail;go_ret;exact⟨rfl,HB.o⟩
end Go.Proofs.YtlliliddljkbfaaGreatDoor
namespace Go.Proofs.YtlliliddljkbfaaGreatDoor
set_option maxHeartbeats 64000000
set_option maxRecDepth 100000
open Go Go.Conc Go.RowKit
def Rt(P:Program)(c:Code)(Q:Exit->Act->World->Prop)(a:Act)(w:World):Prop:=∀(b:Frame) (k:List Item) (cs:List Frame),b.kind≠.early->∃e a' w',Q e a' w'/\Arrives P (lone (b.at a (.code c::k)) cs w) b k cs e a' w'
section
variable {P:Program} {Q:Exit->Act->World->Prop} {a:Act} {w:World}
theorem jZ{c:Code}(h:c.wp P Q a w):Rt P c Q a w:=fun b k cs _=>h b k cs
theorem nP{x y:Code}(h:Rt P x (Exit.then (Rt P y Q) Q) a w):Rt P (.seq x y) Q a w:=by
 intro b k cs hb;obtain⟨e,a1,w1,hq,harr⟩:=h b (.code y::k) cs hb;have s0:Steps P (lone (b.at a (.code (.seq x y)::k)) cs w) (lone (b.at a (.code x :: .code y::k)) cs w):=.one step_seq;cases e with
 |normal=>obtain⟨e2,a2,w2,hq2,Ac⟩:=hq b k cs hb;exact⟨e2,a2,w2,hq2,.of_steps (s0.trans harr) Ac⟩
 |exit id=>exact⟨_,a1,w1,hq,.of_steps s0 (.pass (x:=.code y) rfl (fun _ _=>.inl (by simp)) harr)⟩
 |goto l=>exact⟨_,a1,w1,hq,.of_steps s0 (.pass (x:=.code y) rfl (fun _ _=>.inl (by simp)) harr)⟩
 |ret=>exact⟨_,a1,w1,hq,.of_steps s0 (.pass (x:=.code y) rfl (fun _ _=>.inl (by simp)) harr)⟩
 |panic ch=>exact⟨_,a1,w1,hq,.of_steps s0 (.pass (x:=.code y) rfl (fun _ _=>.inl (by simp)) harr)⟩
 |outgrown=>exact⟨_,a1,w1,hq,.of_steps s0 (.pass (x:=.code y) rfl (fun _ _=>.inl (by simp)) harr)⟩
theorem BA{id:Nat}{c:Code}(h:Rt P c (Exit.inBlock id Q) a w):Rt P (.block id c) Q a w:=by
 intro b k cs hb;obtain⟨e,a1,w1,hq,harr⟩:=h b (.inBlock id::k) cs hb;have s0:Steps P (lone (b.at a (.code (.block id c)::k)) cs w) (lone (b.at a (.code c :: .inBlock id::k)) cs w):=.one step_block;cases e with
 |normal=>exact⟨.normal,a1,w1,hq,(s0.trans harr).trans (.one step_inBlock)⟩
 |exit j=>
  by_cases hj:j=id
  .subst hj;have hq':Q .normal a1 w1:=by simpa[Exit.inBlock]using hq
   exact⟨.normal,a1,w1,hq',s0.trans (harr k (by simp[exitTo]))⟩
  .have hq':Q (.exit j) a1 w1:=by simpa[Exit.inBlock,hj]using hq
   refine⟨.exit j,a1,w1,hq',fun k' hk=>s0.trans (harr k' ?_)⟩;have hj':¬id=j:=fun e=>hj e.symm;simp[exitTo,hj',hk]
 |goto l=>exact⟨.goto l,a1,w1,hq,fun k' hk=>s0.trans (harr k' (by simpa[gotoIn]using hk))⟩
 |ret=>exact⟨.ret,a1,w1,hq,.of_steps s0 harr⟩
 |panic ch=>exact⟨.panic ch,a1,w1,hq,.of_steps s0 harr⟩
 |outgrown=>exact⟨.outgrown,a1,w1,hq,.of_steps (b:=b) (k:=k) (cs:=cs) (e:=.outgrown) s0 harr⟩
theorem L9{c:Code}(I:Nat->Act->World->Prop)(n:Nat)(h0:I n a w)
  (round:∀n a w,I n a w->Rt P c (Exit.then (fun a' w'=>∃n',n'<n/\I n' a' w') Q) a w):Rt P (.loop c) Q a w:=by
 intro b k cs hb;have key:∀n a w,I n a w->∃e a' w',Q e a' w'/\Arrives P (lone (b.at a (.code c :: .inLoop c::k)) cs w) b k cs e a' w':=by
  intro n;induction n using Nat.strongRecOn with
  |_ n ih=>
   intro a w hI;obtain⟨e,a1,w1,hq,harr⟩:=round n a w hI b (.inLoop c::k) cs hb;cases e with
   |normal=>obtain⟨n',hlt,hI'⟩:=hq;obtain⟨e2,a2,w2,hq2,Ac⟩:=ih n' hlt a1 w1 hI';exact⟨e2,a2,w2,hq2,.of_steps (Steps.trans harr (.one step_inLoop)) Ac⟩
   |exit id=>exact⟨_,a1,w1,hq,.pass (x:=.inLoop c) rfl (fun _ _=>.inl (by simp)) harr⟩
   |goto l=>exact⟨_,a1,w1,hq,.pass (x:=.inLoop c) rfl (fun _ _=>.inl (by simp)) harr⟩
   |ret=>exact⟨_,a1,w1,hq,.pass (x:=.inLoop c) rfl (fun _ _=>.inl (by simp)) harr⟩
   |panic ch=>exact⟨_,a1,w1,hq,.pass (x:=.inLoop c) rfl (fun _ _=>.inl (by simp)) harr⟩
   |outgrown=>exact⟨_,a1,w1,hq,.pass (x:=.inLoop c) rfl (fun _ _=>.inl (by simp)) harr⟩
 obtain⟨e,a',w',hq,harr⟩:=key n a w h0;exact⟨e,a',w',hq,.of_steps (.one step_loop) harr⟩
theorem H8{c:Code}(h:∀Q':Exit->Act->World->Prop,Fwd P c Q Q'->Rt P c Q' a w):Rt P (.scope c) Q a w:=by
 have h':=h (acN P c Q) ⟨fun l rest a w hf hr=>⟨rest,hf,hr⟩,fun a w hq=>hq,fun a w hq=>hq,fun e a w hq=>by cases e<;>first|exact hq|exact hq.elim⟩;intro b k cs hb;obtain⟨e,a1,w1,hq,harr⟩:=h' b (.inScope c::k) cs hb;cases e with
 |normal=>exact⟨.normal,a1,w1,hq,.head step_scope (Steps.trans harr (.one step_inScope))⟩
 |exit id=>exact⟨.exit id,a1,w1,hq,fun k' hk=>.head step_scope (harr k' (by simp[exitTo,hk]))⟩
 |goto l=>
  obtain⟨rest,hf,hr⟩:=hq;have hg:gotoIn l (.inScope c::k)=some (.code rest :: .inScope c::k):=by simp[gotoIn,hf]
  obtain⟨e2,a2,w2,hq2,Ac⟩:=hr b (.inScope c::k) cs;have hs:=Steps.head (P:=P) step_scope (harr _ hg);cases e2 with
  |normal=>exact⟨.normal,a2,w2,hq2,Steps.trans hs (Steps.trans Ac (.one step_inScope))⟩
  |exit id=>exact⟨.exit id,a2,w2,hq2,fun k' hk=>Steps.trans hs (Ac k' (by simp[exitTo,hk]))⟩
  |goto l'=>exact hq2.elim
  |ret=>exact⟨_,a2,w2,hq2,.of_steps hs Ac⟩
  |panic ch=>exact⟨_,a2,w2,hq2,.of_steps hs Ac⟩
  |outgrown=>exact⟨_,a2,w2,hq2,.of_steps hs Ac⟩
 |ret=>exact⟨_,a1,w1,hq,.of_steps (.one step_scope) harr⟩
 |panic ch=>exact⟨_,a1,w1,hq,.of_steps (.one step_scope) harr⟩
 |outgrown=>exact⟨_,a1,w1,hq,.of_steps (.one step_scope) harr⟩
theorem Ad{f:FuncId}{fn:Func}{c:Code}{args:Array Value}{R:Ending->World->Prop}
  (hf:P.funcs[f]?=some fn) (hb:fn.body=some c)
  (h:Rt P c (bodyPost P fn R) { tmps:=args++Array.replicate (fn.ntmps-args.size) undef,defers:=[] } w):Calls P f args w R:=by
 intro cs;let b:Frame:={ (default:Frame)with fn:=f,kind:=.normal }
 have henter:Frame.enter P f args .normal=b.at { tmps:=args++Array.replicate (fn.ntmps-args.size) undef,defers:=[] } [.code c]:=by simp[Frame.enter,Frame.at,hf,hb,b]
 obtain⟨e,a',w',hq,harr⟩:=h b [] cs (by simp[b]);rw[<-henter]at harr;cases e with
 |normal=>obtain⟨hd,v,hr,hR⟩:=hq;exact⟨.returned v,w',_,hR,Steps.trans harr (.one step_end),rfl,rfl,hd,rfl,fn,hf,hr⟩
 |ret=>obtain⟨hd,v,hr,hR⟩:=hq;obtain⟨todo,hs⟩:=harr;exact⟨.returned v,w',_,hR,hs,rfl,rfl,hd,rfl,fn,hf,hr⟩
 |panic chain=>obtain⟨hd,hR⟩:=hq;obtain⟨todo,hs⟩:=harr;exact⟨.panicked chain,w',_,hR,hs,rfl,rfl,hd,fn,hf⟩
 |exit id=>exact hq.elim
 |goto l=>exact hq.elim
 |outgrown=>exact⟨.outgrown,w',b,hq,harr.resolve_left (by simp[b]),rfl,trivial⟩
def Left(P:Program)(ops:Array Oper)(Q:Exit->Act->World->Prop)(l:List Nat)(a:Act)(w:World):Prop:=∀(b:Frame) (k:List Item) (cs:List Frame),b.kind≠.early->∃e a' w',Q e a' w'/\Arrives P (lone (b.at a (.inRegion ops l::k)) cs w) b k cs e a' w'
variable {ops:Array Oper} {i:Nat} {rest:List Nat} {o:Oper}
theorem EX{id:Nat}(h:Left P ops Q (List.range ops.size) a w):Rt P (.region id ops false) Q a w:=by intro b k cs hb;obtain⟨e,a1,w1,hq,harr⟩:=h b k cs hb;exact⟨e,a1,w1,hq,.of_steps (.one step_region) harr⟩
theorem left_nil(h:Q .normal a w):Left P ops Q [] a w:=fun _ _ _ _=>⟨.normal,a,w,h,.one step_region_end⟩
theorem yF{v:Value}{w':World}(ho:ops[i]?=some o)(hw:Region.wanted o (yielded ops a.tmps)=true)(hr:(execOp a.eval o).run P w=.ok (.value v) w')
  (h:Left P ops Q rest (a.put o.dst v) w'):Left P ops Q (i::rest) a w:=by
 intro b k cs hb;obtain⟨e,a1,w1,hq,harr⟩:=h b k cs hb;have hg:=stepG_op (P:=P) (b:=b) (k:=k) (cs:=cs) (w:=w) (rest:=rest) ho hw;have hfin:(b.at a (.inRegion ops (i::rest)::k)).finish v=b.at (a.put o.dst v) (.inRegion ops rest::k):=by rw[Frame.finish_at,ho];rfl
 refine⟨e,a1,w1,hq,.of_steps (.one (step_lone_go ?_)) harr⟩;rw[hg,<-hfin];simp[stepG.apply,hr]
theorem TD{f:FuncId}{args:Array Value}{w':World}{S:Value->World->Prop}(ho:ops[i]?=some o)(hw:Region.wanted o (yielded ops a.tmps)=true)(hr:(execOp a.eval o).run P w=.ok (.enter f args) w')
  (hc:Calls P f args w' fun e w2=>∃v,e=.returned v/\S v w2)
  (h:∀v w2,S v w2->Left P ops Q rest (a.put o.dst v) w2):Left P ops Q (i::rest) a w:=by
 intro b k cs hb;obtain⟨e,w2,fr,⟨v,rfl,hS⟩,hsteps,_,hleave⟩:=hc (b.at a (.inRegion ops (i::rest)::k)::cs);obtain⟨e,a1,w1,hq,harr⟩:=h v w2 hS b k cs hb;have hg:=stepG_op (P:=P) (b:=b) (k:=k) (cs:=cs) (w:=w) (rest:=rest) ho hw;have hfin:(b.at a (.inRegion ops (i::rest)::k)).finish v=b.at (a.put o.dst v) (.inRegion ops rest::k):=by rw[Frame.finish_at,ho];rfl
 have henter:step P (lone (b.at a (.inRegion ops (i::rest)::k)) cs w)=.next (lone (Frame.enter P f args .normal) (b.at a (.inRegion ops (i::rest)::k)::cs) w'):=step_lone_go (by rw[hg];simp[stepG.apply,hr,Frame.at])
 refine⟨e,a1,w1,hq,.of_steps (.head henter (Steps.trans hsteps (.one ?_))) harr⟩;rw[<-hfin];exact step_leave_returned hleave
theorem TF{c cap s r:Nat}{buf:Array Value}{v z':Value}{tm:Bool}{w1:World}(ho:ops[i]?=some o)(hw:Region.wanted o (yielded ops a.tmps)=true)
  (hr:(execOp a.eval o).run P w=.ok (.comm #[scase c v z'] true .send) w1) (hc:w1.heap[c]?=some (.chan cap buf false s r tm)) (hroom:buf.size<cap)
  (h:Left P ops Q rest (a.put o.dst undef) (w1.setChan c cap (buf.push v) false (s+1) r tm)):Left P ops Q (i::rest) a w:=by
 intro b k cs hb;obtain⟨e,a1,w2,hq,harr⟩:=h b k cs hb;have hfin:(b.at a (.inRegion ops (i::rest)::k)).finish undef=b.at (a.put o.dst undef) (.inRegion ops rest::k):=by rw[Frame.finish_at,ho];rfl
 have hst:=step_lone_send_room (P:=P) (cs:=cs) (stepG_comm (main:=true) (cs:=cs) (k:=k) (rest:=rest) ho hw hb hr) hc hroom;rw[hfin]at hst;exact⟨e,a1,w2,hq,.of_steps (.one hst) harr⟩
theorem TG{c cap s r:Nat}{buf:Array Value}{z:Value}{tm closed:Bool}{w1:World}(ho:ops[i]?=some o)(hw:Region.wanted o (yielded ops a.tmps)=true)
  (hr:(execOp a.eval o).run P w=.ok (.comm #[rcase c z] true (.recv true)) w1) (hc:w1.heap[c]?=some (.chan cap buf closed s r tm)) (hsome:0<buf.size)
  (h:Left P ops Q rest (a.put o.dst (.tuple #[buf.getD 0 undef,.bool true])) (w1.setChan c cap (buf.extract 1 buf.size) closed s (r+1) tm)):Left P ops Q (i::rest) a w:=by
 intro b k cs hb;obtain⟨e,a1,w2,hq,harr⟩:=h b k cs hb;have hfin:(b.at a (.inRegion ops (i::rest)::k)).finish (got true (buf.getD 0 undef) true)=b.at (a.put o.dst (.tuple #[buf.getD 0 undef,.bool true])) (.inRegion ops rest::k):=by rw[Frame.finish_at,ho];rfl
 have hst:=step_lone_recv_buf (P:=P) (cs:=cs) true (stepG_comm (main:=true) (cs:=cs) (k:=k) (rest:=rest) ho hw hb hr) hc hsome;rw[hfin]at hst;exact⟨e,a1,w2,hq,.of_steps (.one hst) harr⟩
theorem EY{c cap s r:Nat}{z:Value}{tm:Bool}{w1:World}(ho:ops[i]?=some o)(hw:Region.wanted o (yielded ops a.tmps)=true)
  (hr:(execOp a.eval o).run P w=.ok (.comm #[rcase c z] true (.recv true)) w1) (hc:w1.heap[c]?=some (.chan cap #[] true s r tm))
  (h:Left P ops Q rest (a.put o.dst (.tuple #[z,.bool false])) w1):Left P ops Q (i::rest) a w:=by
 intro b k cs hb;obtain⟨e,a1,w2,hq,harr⟩:=h b k cs hb;have hfin:(b.at a (.inRegion ops (i::rest)::k)).finish (got true z false)=b.at (a.put o.dst (.tuple #[z,.bool false])) (.inRegion ops rest::k):=by rw[Frame.finish_at,ho];rfl
 have hst:=step_lone_recv_shut (P:=P) (cs:=cs) true (stepG_comm (main:=true) (cs:=cs) (k:=k) (rest:=rest) ho hw hb hr) hc;rw[hfin]at hst;exact⟨e,a1,w2,hq,.of_steps (.one hst) harr⟩
end
end Go.Proofs.YtlliliddljkbfaaGreatDoor
namespace Go.Proofs.YtlliliddljkbfaaGreatDoor
set_option maxHeartbeats 64000000
set_option maxRecDepth 100000
open Go.Proofs.Tryz (prog)
open Go.RowKit Go.Conc Sp
theorem V7:∃i,prog.info? 68=some i/\i.bytes=40:=by obtain⟨i,h1,_,_,h4⟩:=La;exact⟨i,h1,h4⟩
theorem abk(n:Nat)(hn:n<=600)(w:World):(Instr.makeChan 171 (.int .i64 (n:Int))).run prog w=.ok (.chan (some w.heap.size)) (w.alloc (.chan n #[] false 0 0 false)):=by obtain⟨i,hi,hb⟩:=V7;exact run_makeChan (P:=prog) (w:=w) Tryz.underlying171 hi .i64 n oo (by rw[hb];omega)
structure jk(w wr:World)(b c:Nat)(s:ByteArray)(k:Nat)(ts:List Tok):Prop where
 sc:Sc wr b s k
 chan:wr.heap[c]?=some (.chan s.size (ts.map aF).toArray false ts.length 0 false)
 below:Below w.heap.size w wr
 ne:b≠c
 lob:w.heap.size<=b
 loc:w.heap.size<=c
 c0:0<c
theorem jk.clt{w wr:World}{b c:Nat}{s:ByteArray}{k:Nat}{ts:List Tok}(h:jk w wr b c s k ts):c<wr.heap.size:=(Array.getElem?_eq_some_iff.1 h.chan).1
theorem jk.went{w wr w':World}{b c:Nat}{s:ByteArray}{k j:Nat}{ts:List Tok}(h:jk w wr b c s k ts)(hw:aG b s j wr w'):jk w w' b c s j ts:=⟨hw.1,by rw[hw.2.block c h.clt h.ne.symm];exact h.chan,h.below.trans (hw.2.below h.lob h.below.size),h.ne,h.lob,h.loc,h.c0⟩
theorem jk.drewN{w wr:World}{b c:Nat}{s:ByteArray}{k:Nat}{ts:List Tok}(h:jk w wr b c s k ts)(n:Nat):jk w (wr.drewN n) b c s k ts:=h.went ((aG.refl h.sc).drewN n)
theorem kF(w:World)(c cap:Nat)(buf:Array Value)(cl:Bool)(s r:Nat)(tm:Bool){j:Nat}(h:j≠c):(w.setChan c cap buf cl s r tm).heap[j]?=w.heap[j]?:=by simp only[World.setChan];rw[Array.getElem?_setIfInBounds_ne oo]
theorem jk.sent{w wr:World}{b c:Nat}{s:ByteArray}{k:Nat}{ts:List Tok}(h:jk w wr b c s k ts)(t:Tok):
  jk w (wr.setChan c s.size ((ts.map aF).toArray.push (aF t)) false (ts.length+1) 0 false) b c s k (ts++[t]):=by
 have hc:=h.c0;refine⟨⟨?_,?_,h.sc.pos,h.sc.len,h.sc.le⟩,?_,below_setChan h.below h.loc _ _ _ _ _ _,h.ne,h.lob,h.loc,h.c0⟩
 .rw[kF _ _ _ _ _ _ _ _ h.ne];exact h.sc.blk
 .obtain⟨m,hm⟩:=h.sc.glob;exact⟨m,by rw[<-hm];exact World.cell?_of_block (w:=wr) (kF _ _ _ _ _ _ _ _ (by show(0:Nat)≠c;omega))⟩
 .rw[heap_setChan _ _ _ _ _ _ _ _ h.clt];simp
theorem JQ(lN:ByteArray)(w:World)(hs:lN.size<=600)(hg:∃m,w.cell? ⟨0,0,none⟩=some (.int .i64 m))(h0:0<w.heap.size):
  Calls prog 51 #[.string lN] w fun e w'=>∃c cap n,e=.returned (.chan (some c))/\w.heap.size<=c/\w'.heap[c]?=some (.chan cap ((toks (Sp.clean lN)).map aF).toArray true n 0 false)/\Below w.heap.size w w':=by
 have hcs:=oD lN;have HG:Hid (∃m,w.cell? ⟨0,0,none⟩=some (.int .i64 m)):=hg;clear hg;refine Ad Tryz.func51 rfl ?_;simp only[Tryz.ntmps51,List.size_toArray,List.length_cons,List.length_nil,Nat.reduceAdd,Nat.reduceSub,Array.replicate_succ,
   Array.replicate_zero,List.push_toArray,List.append_toArray,List.nil_append,List.cons_append]
 refine nP (jZ ?_);go_wp2_with fail;refine H8 (fun Q' hF=>?_);refine nP (jZ ?_);go_wp2_with fail;refine pmb (Zk lN w hs) fun w1 hb1=>?_;obtain⟨s,HS⟩:∃s,Hid (Sp.clean lN=s):=⟨_,rfl⟩;rw[HS.o]at hcs⊢;have HB1:Hid (Below w.heap.size w w1):=hb1;clear hb1;go_wp2_with fail;refine nP (jZ ?_);have hmc:=abk s.size oo;go_wp2_with fail;have hw1:w.heap.size<=w1.heap.size:=HB1.o.size;have S0:Hid (jk w ((w1.alloc (.cells #[.string s,.int .i64 0] 170)).alloc (.chan s.size #[] false 0 0 false)) w1.heap.size (w1.heap.size+1) s 0 []):=by
  refine⟨⟨?_,?_,oo,oo,oo⟩,?_,?_,oo,oo,oo,oo⟩
  .rw[Below.heap_alloc _ _ _ (by simp)];exact heap_alloc_new w1 _
  .obtain⟨m,hm⟩:=HG.o;refine⟨m,?_⟩;rw[<-hm];exact((HB1.o.alloc hw1 _).alloc (by simp;omega) _).cell (p:=⟨0,0,none⟩) h0
  .have:=heap_alloc_new (w1.alloc (.cells #[.string s,.int .i64 0] 170)) (.chan s.size #[] false 0 0 false);simpa using this
  .exact(HB1.o.alloc hw1 _).alloc (by simp;omega) _
 refine nP ?_;refine BA ?_;refine L9 (fun n a wr=>∃(k:Nat) (ts:List Tok) (u12 u13 u14 u15 u16:Value),a=⟨#[Value.string lN,undef,Value.chan none,Value.pointer (some ⟨w1.heap.size,0,none⟩),Value.chan (some (w1.heap.size+1)),Value.string lN,Value.string s,Value.agg #[Value.string s,Value.int .i64 0],Value.pointer (some ⟨w1.heap.size,0,none⟩),Value.string s,Value.int .i64 (s.size:Int),Value.chan (some (w1.heap.size+1)),u12,u13,u14,u15,u16,undef,undef],[]⟩/\s.size<=k+n/\ts.length<=k/\ts++tokF s n (com s k)=toks s/\jk w wr w1.heap.size (w1.heap.size+1) s k ts) s.size ⟨0,[],undef,undef,undef,undef,undef,rfl,oo,by simp,rfl,S0.o⟩ ?_;rintro gk _ wr ⟨k,ts,u12,u13,u14,u15,u16,rfl,hk,htl,hts,hS⟩;have HT:Hid (ts++tokF s gk (com s k)=toks s):=hts;have S1:Hid (jk w wr w1.heap.size (w1.heap.size+1) s k ts):=hS;clear hts hS S0
 have hkl:=S1.o.sc.le;have hcg:=OD hkl;have hcl:=rZ hkl;refine BA ?_;refine nP (jZ ?_);go_wp2_with fail;refine pmb (ES s w1.heap.size k _ S1.o.sc) fun w2 aj=>?_;have S2:Hid (jk w w2 w1.heap.size (w1.heap.size+1) s (com s k) ts):=S1.o.went aj;clear aj;obtain⟨k1,HK⟩:∃k1,Hid (com s k=k1):=⟨_,rfl⟩;rw[HK.o]at hcg hcl;have S3:Hid (jk w w2 w1.heap.size (w1.heap.size+1) s k1 ts):=by have:=S2.o;rw[HK.o]at this;exact this
 have HT2:Hid (ts++tokF s gk k1=toks s):=by have:=HT.o;rw[HK.o]at this;exact this
 clear S1 S2 HT;go_wp2_with fail;refine nP (jZ ?_);by_cases hend:s.size<=k1
 .have e0:(pk s k1 == -1)=true:=by rw[mO hend];rfl
  have HV:Hid (ts=toks s):=by
   show ts=toks s;rw[<-HT2.o];cases gk with
   |zero=>simp[tokF]
   |succ f=>unfold tokF;rw[if_pos hend];simp
  go_wp2_with fail;refine dK (ak s w1.heap.size k1 _ k1 _ S3.o.sc ⟨oo,oo,oo⟩) fun nq=>?_;go_wp2_with fail;go_step3
  refine hF.go 0 _ _ _ rfl ?_;clear hF;have S4:Hid (jk w (w2.drewN nq) w1.heap.size (w1.heap.size+1) s k1 ts):=S3.o.drewN nq;obtain⟨w3,hcl,HC,HB⟩:∃w3:World,(∀ats ty,(Builtin.close_ ats ty #[.chan (some (w1.heap.size+1))]).run prog (w2.drewN nq)=.ok (.tuple #[]) w3)/\Hid (w3.heap[w1.heap.size+1]?=some (.chan s.size (ts.map aF).toArray true ts.length 0 false))/\Hid (Below w.heap.size w w3):=⟨(w2.drewN nq).setChan (w1.heap.size+1) s.size (ts.map aF).toArray true ts.length 0 false,fun ats ty=>run_close_open (P:=prog) (w:=w2.drewN nq) ats ty S4.o.chan,heap_setChan _ _ _ _ _ _ _ _ S4.o.clt,below_setChan S4.o.below S4.o.loc _ _ _ _ _ _⟩
  go_wp2_with fail;rw[Exit.noGoto_ret];go_ret;refine⟨w1.heap.size+1,s.size,ts.length,rfl,oo,?_,HB.o⟩;rw[HS.o,<-HV.o];exact HC.o
 .have e0:(pk s k1 == -1)=false:=by have:=tV (s:=s) (i:=k1) oo;simp;omega
  have hlt:k1<s.size:=oo;obtain⟨f,rfl⟩:∃f,gk=f+1:=⟨gk-1,oo⟩;have htg:=Ec hlt;have V8:=uJ hlt;have HV:Hid (ts++[(token s k1).1]++tokF s f (com s (token s k1).2)=toks s):=by
   show _=_;rw[<-HT2.o];conv=>rhs;unfold tokF
   rw[if_neg hend];simp
  go_wp2_with fail;refine dK (ak s w1.heap.size k1 _ k1 _ S3.o.sc ⟨oo,oo,oo⟩) fun nq=>?_;have S4:Hid (jk w (w2.drewN nq) w1.heap.size (w1.heap.size+1) s k1 ts):=S3.o.drewN nq;go_wp2_with fail;refine EX ?_;show Left _ _ _ [0,1,2] _ _;refine yF (v:=.chan (some (w1.heap.size+1))) (w':=w2.drewN nq) rfl rfl (by simp[go_sem]) ?_;refine TD (f:=96) (args:=#[.pointer (some ⟨w1.heap.size,0,none⟩)]) (w':=w2.drewN nq) (S:=fun v w'=>v=aF (token s k1).1/\aG w1.heap.size s (token s k1).2 (w2.drewN nq) w') rfl rfl (by simp[go_sem]) ((Zi s w1.heap.size k1 _ S4.o.sc hlt).mono fun e w' h=>⟨_,h.1,rfl,h.2⟩) ?_;rintro _ w4 ⟨rfl,aj⟩;have S5:Hid (jk w w4 w1.heap.size (w1.heap.size+1) s (token s k1).2 ts):=S4.o.went aj;clear aj
  refine TF (c:=w1.heap.size+1) (cap:=s.size) (s:=ts.length) (r:=0) (buf:=(ts.map aF).toArray) (v:=aF (token s k1).1) (z':=.tuple #[]) (tm:=false) (w1:=w4) rfl rfl (by simp[go_sem,execOp,scase,Act.eval,Act.put]) S5.o.chan (by simp;omega) ?_;refine left_nil ?_;refine⟨f,oo,(token s k1).2,ts++[(token s k1).1],_,_,_,_,_,rfl,oo,by simp;omega,HV.o,S5.o.sent _⟩
end Go.Proofs.YtlliliddljkbfaaGreatDoor
namespace Go.Proofs.YtlliliddljkbfaaGreatDoor
set_option maxHeartbeats 64000000
set_option maxRecDepth 100000
open Go.RowKit Go.Conc Sp
def gY:List Tok->List Value
 |[]=>[]
 |t::r=>[.int .i64 t.kind,.string t.word,.string t.unit]++gY r
theorem um:∀a b:List Tok,gY (a++b)=gY a++gY b
 |[],b=>rfl
 |t::a,b=>by simp[gY,um a b]
theorem Mc(t:Tok):∀u∈[Value.int .i64 t.kind,.string t.word,.string t.unit],u.oneCell'=true:=by simp[Value.oneCell']
theorem V9(s:ByteArray):(toks s).length<=s.size:=by have:=KU s s.size (com s 0) (rZ (Nat.zero_le _));unfold toks;omega
end Go.Proofs.YtlliliddljkbfaaGreatDoor
