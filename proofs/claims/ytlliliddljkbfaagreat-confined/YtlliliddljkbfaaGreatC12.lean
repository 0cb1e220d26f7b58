import Derived.Test.YtlliliddljkbfaaGreatC11
import Derived.Conc.LoneCalls
set_option maxHeartbeats 64000000
set_option maxRecDepth 100000
namespace Go.Proofs.YtlliliddljkbfaaGreat
open Go.Proofs.Tryz (prog)
open Go.RowKit Sp
def Vg(l:List UInt8):List Av:=l.map fun b=>Value.int .u8 (b.toNat:Int)
theorem rG(a b:List UInt8):Vg (a++b)=Vg a++Vg b:=by simp[Vg]
theorem rH(n:Int):∀u∈[Value.int .u8 n],u.oneCell'=true:=by simp[Value.oneCell']
theorem agn(s:BY)(i:Nat):(ZO s i).length<=1:=by
 unfold ZO;split
 .split
  .simp
  .split
   .simp
   .split<;>simp
 .simp
theorem xZ(s:BY):∀k,(bC s k).length<=k
 |0=>by simp[bC]
 |k+1=>by have:=xZ s k;have:=agn s k;simp[bC];omega
theorem oZ(s:BY):(clean s).size<=s.size:=by have:=xZ s s.size;show(bC s s.size).toArray.size<=s.size;simpa using this
theorem byte_at{s:BY}{k:Nat}(h:k<s.size)(n:Nat)(hn:n<256):s[k]=UInt8.ofNat n↔pk s k=(n:Int):=by
 rw[zK h];constructor
 .intro e;rw[e];simp;omega
 .intro e;apply UInt8.toNat_inj.1
  simp;omega
theorem b13{s:BY}{k:Nat}(h:k<s.size):s[k]=13↔pk s k=13:=byte_at h 13 oo
theorem b12{s:BY}{k:Nat}(h:k<s.size):s[k]=12↔pk s k=12:=byte_at h 12 oo
theorem b00{s:BY}{k:Nat}(h:k<s.size):s[k]=0↔pk s k=0:=byte_at h 0 oo
theorem OI{s:BY}{k:Nat}(h:k<s.size):ZO s k=if pk s k=13/\pk s (k+1)=10 then [] else if pk s k=13\/pk s k=12 then [10] else if pk s k=0 then [63] else [s[k]]:=by unfold ZO;rw[dif_pos h];simp only[b13 h,b12 h,b00 h]
theorem acS{s:BY}{k:Nat}(h:k<s.size)(h1:pk s k=13)(h2:pk s (k+1)=10):ZO s k=[]:=by rw[OI h,if_pos ⟨h1,h2⟩]
theorem IZ{s:BY}{k:Nat}(h:k<s.size)(h1:pk s k=13\/pk s k=12)(h2:¬(pk s k=13/\pk s (k+1)=10)):ZO s k=[10]:=by rw[OI h,if_neg h2,if_pos h1]
theorem agp{s:BY}{k:Nat}(h:k<s.size)(h1:pk s k=0):ZO s k=[63]:=by rw[OI h,if_neg oo,if_neg oo,if_pos h1]
theorem acT{s:BY}{k:Nat}(h:k<s.size)(h1:pk s k≠13)(h2:pk s k≠12)(h3:pk s k≠0):ZO s k=[s[k]]:=by rw[OI h,if_neg oo,if_neg oo,if_neg h3]
theorem agq(s:BY)(w:WD)(hs:s.size<=600):
  Calls prog 111 #[.string s] w fun e w'=>e=.returned (.string (Sp.clean s))/\Below w.heap.size w w':=by
 obtain⟨iU,hiU,hzU,hsU,hbU⟩:=info_u8;have HI:Hid (prog.info? 5=some iU/\iU.zero=some (.int .u8 0)/\iU.size=1/\iU.bytes=1):=⟨hiU,hzU,hsU,hbU⟩;clear hiU hzU hsU hbU;go_in;go_wp2_with(at_make;refine wpList_make_own _ rfl _ _ 145 rfl w.heap.size 5 iU (.int .u8 0) 1 Tryz.underlying145 HI.o.1 HI.o.2.1 HI.o.2.2.1 _ _ _ s.size rfl rfl rfl ?_ ?_ ?_ ?_)
 .rw[HI.o.2.2.2];omega
 .unfold maxLen;omega
 .exact Nat.le_refl _
 intro w1 hown1 Qx;have HB1:Hid (Below w.heap.size w w1):=Ax.grown Qx nl (fun _ h=>by cases h);have uS:=hid hown1;clear hown1 Qx;go_wp2_with fail;go_loopg[3,11] s.size (fun g v3 v11 wr=>∃(v:Av) (k:Nat),v=v3/\k+g=s.size/\v11=.int .i64 (k:Int)/\Aside (wr.ownsRow w.heap.size 5 1 v (bC s k).length (Vg (bC s k))/\Below w.heap.size w wr));case atStart=>exact⟨_,0,rfl,oo,rfl,uS.o,HB1.o⟩
 case round=>
  obtain⟨v3,k,rfl,hk,rfl,hA⟩:=hrel;have HO:=hid hA.o.1;have HB:=hid hA.o.2;clear hA;have hcl:=xZ s k;by_cases hlt:k<s.size
  .have hix:=gQ s k hlt;have hsz:=HB.o.size;have hnn:=tK hlt;have hhi:=Yj s k;have HT:Hid (bC s (k+1)=bC s k++ZO s k):=rfl;by_cases h13:pk s k=13
   .have e1:(pk s k==13)=true:=by rw[h13];rfl
    by_cases hnx:k+1<s.size
    .have amI:(k:Int)+1<(s.size:Int):=oo;have hix2:∀w:WD,(Instr.index 9 (.string s) (.int .i64 ((k:Int)+1))).run prog w=.ok (.int .u8 (pk s (k+1))) w:=fun w=>gQ s (k+1) hnx w;by_cases h10:pk s (k+1)=10
     .have e2:(pk s (k+1)==10)=true:=by rw[h10];rfl
      have HC:Hid (bC s (k+1)=bC s k):=by show _=_;rw[HT.o,acS hlt h13 h10,List.append_nil]
      clear h13 h10;go_wp2_with fail;go_roundg(gk-1);case measure=>omega
      case rel=>exact⟨v3,k+1,rfl,oo,by congr 1,by rw[HC.o];exact HO.o,HB.o⟩
     .have e2:(pk s (k+1)==10)=false:=by simpa using h10
      have HC:Hid (bC s (k+1)=bC s k++[10]):=by show _=_;rw[HT.o,IZ hlt (.inl h13) (fun h=>h10 h.2)]
      clear h13 h10;go_wp2_with(at_builtin;refine wpList_append_own _ rfl _ _ 145 rfl w.heap.size 5 iU (.int .u8 0) 1 1 Tryz.underlying145 HI.o.1 HI.o.2.1 HI.o.2.2.1 HI.o.2.2.2 rfl oo v3 (bC s k).length (Vg (bC s k)) rfl (HO.o.alloc _) ⟨wr.heap.size,0,none⟩ 1 1 [.int .u8 (10)] rfl rfl (cell_one_new _ _ _) (rH _) ?_ ?_ ?_ ?_)
      .unfold maxLen;omega
      .omega
      .first|omega|(simp;omega)
      intro v4 w2 hown2 jk _;have FW:=hid hown2;have HB2:Hid (Below w.heap.size w w2):=(HB.o.alloc hsz _).grown jk (by first|omega|(simp;omega)) (fun r hr=>(HO.o.lt r hr).1);clear hown2 jk;go_wp2_with fail;go_roundg(gk-1);case measure=>omega
      case rel=>refine⟨v4,k+1,rfl,oo,by congr 1,?_,HB2.o⟩;rw[HC.o,rG,List.length_append];exact FW.o
    .have amI:(s.size:Int)<=(k:Int)+1:=oo;have HC:Hid (bC s (k+1)=bC s k++[10]):=by show _=_;rw[HT.o,IZ hlt (.inl h13) (fun h=>by have:=dY (s:=s) (i:=k+1) oo;omega)]
     clear h13;go_wp2_with(at_builtin;refine wpList_append_own _ rfl _ _ 145 rfl w.heap.size 5 iU (.int .u8 0) 1 1 Tryz.underlying145 HI.o.1 HI.o.2.1 HI.o.2.2.1 HI.o.2.2.2 rfl oo v3 (bC s k).length (Vg (bC s k)) rfl (HO.o.alloc _) ⟨wr.heap.size,0,none⟩ 1 1 [.int .u8 (10)] rfl rfl (cell_one_new _ _ _) (rH _) ?_ ?_ ?_ ?_)
     .unfold maxLen;omega
     .omega
     .first|omega|(simp;omega)
     intro v4 w2 hown2 jk _;have FW:=hid hown2;have HB2:Hid (Below w.heap.size w w2):=(HB.o.alloc hsz _).grown jk (by first|omega|(simp;omega)) (fun r hr=>(HO.o.lt r hr).1);clear hown2 jk;go_wp2_with fail;go_roundg(gk-1);case measure=>omega
     case rel=>refine⟨v4,k+1,rfl,oo,by congr 1,?_,HB2.o⟩;rw[HC.o,rG,List.length_append];exact FW.o
   .have e1:(pk s k==13)=false:=by simpa using h13
    by_cases h12:pk s k=12
    .have e2:(pk s k==12)=true:=by rw[h12];rfl
     have HC:Hid (bC s (k+1)=bC s k++[10]):=by show _=_;rw[HT.o,IZ hlt (.inr h12) (fun h=>h13 h.1)]
     clear h13 h12;go_wp2_with(at_builtin;refine wpList_append_own _ rfl _ _ 145 rfl w.heap.size 5 iU (.int .u8 0) 1 1 Tryz.underlying145 HI.o.1 HI.o.2.1 HI.o.2.2.1 HI.o.2.2.2 rfl oo v3 (bC s k).length (Vg (bC s k)) rfl (HO.o.alloc _) ⟨wr.heap.size,0,none⟩ 1 1 [.int .u8 (10)] rfl rfl (cell_one_new _ _ _) (rH _) ?_ ?_ ?_ ?_)
     .unfold maxLen;omega
     .omega
     .first|omega|(simp;omega)
     intro v4 w2 hown2 jk _;have FW:=hid hown2;have HB2:Hid (Below w.heap.size w w2):=(HB.o.alloc hsz _).grown jk (by first|omega|(simp;omega)) (fun r hr=>(HO.o.lt r hr).1);clear hown2 jk;go_wp2_with fail;go_roundg(gk-1);case measure=>omega
     case rel=>refine⟨v4,k+1,rfl,oo,by congr 1,?_,HB2.o⟩;rw[HC.o,rG,List.length_append];exact FW.o
    .have e2:(pk s k==12)=false:=by simpa using h12
     by_cases h0:pk s k=0
     .have e3:(pk s k==0)=true:=by rw[h0];rfl
      have HC:Hid (bC s (k+1)=bC s k++[63]):=by show _=_;rw[HT.o,agp hlt h0]
      clear h13 h12 h0;go_wp2_with(at_builtin;refine wpList_append_own _ rfl _ _ 145 rfl w.heap.size 5 iU (.int .u8 0) 1 1 Tryz.underlying145 HI.o.1 HI.o.2.1 HI.o.2.2.1 HI.o.2.2.2 rfl oo v3 (bC s k).length (Vg (bC s k)) rfl (HO.o.alloc _) ⟨wr.heap.size,0,none⟩ 1 1 [.int .u8 (63)] rfl rfl (cell_one_new _ _ _) (rH _) ?_ ?_ ?_ ?_)
      .unfold maxLen;omega
      .omega
      .first|omega|(simp;omega)
      intro v4 w2 hown2 jk _;have FW:=hid hown2;have HB2:Hid (Below w.heap.size w w2):=(HB.o.alloc hsz _).grown jk (by first|omega|(simp;omega)) (fun r hr=>(HO.o.lt r hr).1);clear hown2 jk;go_wp2_with fail;go_roundg(gk-1);case measure=>omega
      case rel=>refine⟨v4,k+1,rfl,oo,by congr 1,?_,HB2.o⟩;rw[HC.o,rG,List.length_append];exact FW.o
     .have e3:(pk s k==0)=false:=by simpa using h0
      have HC:Hid (bC s (k+1)=bC s k++[s[k]]):=by show _=_;rw[HT.o,acT hlt h13 h12 h0]
      have HP:Hid (pk s k=(s[k].toNat:Int)):=zK hlt;clear h13 h12 h0;go_wp2_with(at_builtin;refine wpList_append_own _ rfl _ _ 145 rfl w.heap.size 5 iU (.int .u8 0) 1 1 Tryz.underlying145 HI.o.1 HI.o.2.1 HI.o.2.2.1 HI.o.2.2.2 rfl oo v3 (bC s k).length (Vg (bC s k)) rfl (HO.o.alloc _) ⟨wr.heap.size,0,none⟩ 1 1 [.int .u8 (pk s k)] rfl rfl (cell_one_new _ _ _) (rH _) ?_ ?_ ?_ ?_)
      .unfold maxLen;omega
      .omega
      .first|omega|(simp;omega)
      intro v4 w2 hown2 jk _;have FW:=hid hown2;have HB2:Hid (Below w.heap.size w w2):=(HB.o.alloc hsz _).grown jk (by first|omega|(simp;omega)) (fun r hr=>(HO.o.lt r hr).1);clear hown2 jk;go_wp2_with fail;go_roundg(gk-1);case measure=>omega
      case rel=>refine⟨v4,k+1,rfl,oo,by congr 1,?_,HB2.o⟩;rw[HC.o,rG,List.length_append];have h2:=FW.o;rw[HP.o]at h2;exact h2
  .have hcv:(convert 145 9 v3).run prog wr=.ok (.string (Sp.clean s)) wr:=by
    have e:k=s.size:=oo;have h1:=HO.o;rw[e]at h1;exact conv_own (P:=prog) wr 145 9 5 Tryz.underlying145 Tryz.underlying5 Tryz.underlying9 (bC s s.size) h1
   go_wp2_with fail;go_ret;exact⟨rfl,HB.o⟩
end Go.Proofs.YtlliliddljkbfaaGreat
namespace Go.Proofs.YtlliliddljkbfaaGreat
open Go Go.Conc Go.RowKit
def YJ(P:Program)(c:Code)(Q:Exit->Act->World->Prop)(a:Act)(w:World):Prop:=∀(b:Frame) (k:List Item) (cs:List Frame),b.kind≠.early->∃e a' w',Q e a' w'/\Arrives P (lone (b.at a (.code c::k)) cs w) b k cs e a' w'
section
variable {P:Program} {Q:Exit->Act->World->Prop} {a:Act} {w:World}
theorem jI{c:Code}(h:c.wp P Q a w):YJ P c Q a w:=fun b k cs _=>h b k cs
theorem nN{x y:Code}(h:YJ P x (Exit.then (YJ P y Q) Q) a w):YJ P (.seq x y) Q a w:=by
 intro b k cs hb;obtain⟨e,a1,w1,hq,harr⟩:=h b (.code y::k) cs hb;have s0:Steps P (lone (b.at a (.code (.seq x y)::k)) cs w) (lone (b.at a (.code x :: .code y::k)) cs w):=.one step_seq;cases e with
 |normal=>obtain⟨e2,a2,w2,hq2,C9⟩:=hq b k cs hb;exact⟨e2,a2,w2,hq2,.of_steps (s0.trans harr) C9⟩
 |exit id=>exact⟨_,a1,w1,hq,.of_steps s0 (.pass (x:=.code y) rfl (fun _ _=>.inl (by simp)) harr)⟩
 |goto l=>exact⟨_,a1,w1,hq,.of_steps s0 (.pass (x:=.code y) rfl (fun _ _=>.inl (by simp)) harr)⟩
 |ret=>exact⟨_,a1,w1,hq,.of_steps s0 (.pass (x:=.code y) rfl (fun _ _=>.inl (by simp)) harr)⟩
 |panic ch=>exact⟨_,a1,w1,hq,.of_steps s0 (.pass (x:=.code y) rfl (fun _ _=>.inl (by simp)) harr)⟩
 |outgrown=>exact⟨_,a1,w1,hq,.of_steps s0 (.pass (x:=.code y) rfl (fun _ _=>.inl (by simp)) harr)⟩
theorem Et{id:Nat}{c:Code}(h:YJ P c (Exit.inBlock id Q) a w):YJ P (.block id c) Q a w:=by
 intro b k cs hb;obtain⟨e,a1,w1,hq,harr⟩:=h b (.inBlock id::k) cs hb;have s0:Steps P (lone (b.at a (.code (.block id c)::k)) cs w) (lone (b.at a (.code c :: .inBlock id::k)) cs w):=.one step_block;cases e with
 |normal=>exact⟨.normal,a1,w1,hq,(s0.trans harr).trans (.one step_inBlock)⟩
 |exit j=>
  by_cases hj:j=id
  .subst hj;have hq':Q .normal a1 w1:=by simpa[Exit.inBlock]using hq
   exact⟨.normal,a1,w1,hq',s0.trans (harr k (by simp[exitTo]))⟩
  .have hq':Q (.exit j) a1 w1:=by simpa[Exit.inBlock,hj]using hq
   refine⟨.exit j,a1,w1,hq',fun k' hk=>s0.trans (harr k' ?_)⟩;have hj':¬id=j:=fun e=>hj e.symm;simp[exitTo,hj',hk]
 |goto l=>exact⟨.goto l,a1,w1,hq,fun k' hk=>s0.trans (harr k' (by simpa[gotoIn]using hk))⟩
 |ret=>exact⟨.ret,a1,w1,hq,.of_steps s0 harr⟩
 |panic ch=>exact⟨.panic ch,a1,w1,hq,.of_steps s0 harr⟩
 |outgrown=>exact⟨.outgrown,a1,w1,hq,.of_steps (b:=b) (k:=k) (cs:=cs) (e:=.outgrown) s0 harr⟩
theorem RI{c:Code}(I:Nat->Act->World->Prop)(n:Nat)(h0:I n a w)
  (round:∀n a w,I n a w->YJ P c (Exit.then (fun a' w'=>∃n',n'<n/\I n' a' w') Q) a w):YJ P (.loop c) Q a w:=by
 intro b k cs hb;have key:∀n a w,I n a w->∃e a' w',Q e a' w'/\Arrives P (lone (b.at a (.code c :: .inLoop c::k)) cs w) b k cs e a' w':=by
  intro n;induction n using Nat.strongRecOn with
  |_ n ih=>
   intro a w hI;obtain⟨e,a1,w1,hq,harr⟩:=round n a w hI b (.inLoop c::k) cs hb;cases e with
   |normal=>obtain⟨n',hlt,hI'⟩:=hq;obtain⟨e2,a2,w2,hq2,C9⟩:=ih n' hlt a1 w1 hI';exact⟨e2,a2,w2,hq2,.of_steps (Steps.trans harr (.one step_inLoop)) C9⟩
   |exit id=>exact⟨_,a1,w1,hq,.pass (x:=.inLoop c) rfl (fun _ _=>.inl (by simp)) harr⟩
   |goto l=>exact⟨_,a1,w1,hq,.pass (x:=.inLoop c) rfl (fun _ _=>.inl (by simp)) harr⟩
   |ret=>exact⟨_,a1,w1,hq,.pass (x:=.inLoop c) rfl (fun _ _=>.inl (by simp)) harr⟩
   |panic ch=>exact⟨_,a1,w1,hq,.pass (x:=.inLoop c) rfl (fun _ _=>.inl (by simp)) harr⟩
   |outgrown=>exact⟨_,a1,w1,hq,.pass (x:=.inLoop c) rfl (fun _ _=>.inl (by simp)) harr⟩
 obtain⟨e,a',w',hq,harr⟩:=key n a w h0;exact⟨e,a',w',hq,.of_steps (.one step_loop) harr⟩
theorem LD{c:Code}(h:∀Q':Exit->Act->World->Prop,Fwd P c Q Q'->YJ P c Q' a w):YJ P (.scope c) Q a w:=by
 have h':=h (akK P c Q) ⟨fun l rest a w hf hr=>⟨rest,hf,hr⟩,fun a w hq=>hq,fun a w hq=>hq,fun e a w hq=>by cases e<;>first|exact hq|exact hq.elim⟩;intro b k cs hb;obtain⟨e,a1,w1,hq,harr⟩:=h' b (.inScope c::k) cs hb;cases e with
 |normal=>exact⟨.normal,a1,w1,hq,.head step_scope (Steps.trans harr (.one step_inScope))⟩
 |exit id=>exact⟨.exit id,a1,w1,hq,fun k' hk=>.head step_scope (harr k' (by simp[exitTo,hk]))⟩
 |goto l=>
  obtain⟨rest,hf,hr⟩:=hq;have hg:gotoIn l (.inScope c::k)=some (.code rest :: .inScope c::k):=by simp[gotoIn,hf]
  obtain⟨e2,a2,w2,hq2,C9⟩:=hr b (.inScope c::k) cs;have hs:=Steps.head (P:=P) step_scope (harr _ hg);cases e2 with
  |normal=>exact⟨.normal,a2,w2,hq2,Steps.trans hs (Steps.trans C9 (.one step_inScope))⟩
  |exit id=>exact⟨.exit id,a2,w2,hq2,fun k' hk=>Steps.trans hs (C9 k' (by simp[exitTo,hk]))⟩
  |goto l'=>exact hq2.elim
  |ret=>exact⟨_,a2,w2,hq2,.of_steps hs C9⟩
  |panic ch=>exact⟨_,a2,w2,hq2,.of_steps hs C9⟩
  |outgrown=>exact⟨_,a2,w2,hq2,.of_steps hs C9⟩
 |ret=>exact⟨_,a1,w1,hq,.of_steps (.one step_scope) harr⟩
 |panic ch=>exact⟨_,a1,w1,hq,.of_steps (.one step_scope) harr⟩
 |outgrown=>exact⟨_,a1,w1,hq,.of_steps (.one step_scope) harr⟩
theorem Dc{f:FuncId}{fn:Func}{c:Code}{args:Array Value}{R:Ending->World->Prop}
  (hf:P.funcs[f]?=some fn) (hb:fn.body=some c)
  (h:YJ P c (bodyPost P fn R) { tmps:=args++Array.replicate (fn.ntmps-args.size) undef,defers:=[] } w):Calls P f args w R:=by
 intro cs;let b:Frame:={ (default:Frame)with fn:=f,kind:=.normal }
 have henter:Frame.enter P f args .normal=b.at { tmps:=args++Array.replicate (fn.ntmps-args.size) undef,defers:=[] } [.code c]:=by simp[Frame.enter,Frame.at,hf,hb,b]
 obtain⟨e,a',w',hq,harr⟩:=h b [] cs (by simp[b]);rw[<-henter]at harr;cases e with
 |normal=>obtain⟨hd,v,hr,hR⟩:=hq;exact⟨.returned v,w',_,hR,Steps.trans harr (.one step_end),rfl,rfl,hd,rfl,fn,hf,hr⟩
 |ret=>obtain⟨hd,v,hr,hR⟩:=hq;obtain⟨todo,hs⟩:=harr;exact⟨.returned v,w',_,hR,hs,rfl,rfl,hd,rfl,fn,hf,hr⟩
 |panic chain=>obtain⟨hd,hR⟩:=hq;obtain⟨todo,hs⟩:=harr;exact⟨.panicked chain,w',_,hR,hs,rfl,rfl,hd,fn,hf⟩
 |exit id=>exact hq.elim
 |goto l=>exact hq.elim
 |outgrown=>exact⟨.outgrown,w',b,hq,harr.resolve_left (by simp[b]),rfl,trivial⟩
def Left(P:Program)(ops:Array Oper)(Q:Exit->Act->World->Prop)(l:List Nat)(a:Act)(w:World):Prop:=∀(b:Frame) (k:List Item) (cs:List Frame),b.kind≠.early->∃e a' w',Q e a' w'/\Arrives P (lone (b.at a (.inRegion ops l::k)) cs w) b k cs e a' w'
variable {ops:Array Oper} {i:Nat} {rest:List Nat} {o:Oper}
theorem I9{id:Nat}(h:Left P ops Q (List.range ops.size) a w):YJ P (.region id ops false) Q a w:=by intro b k cs hb;obtain⟨e,a1,w1,hq,harr⟩:=h b k cs hb;exact⟨e,a1,w1,hq,.of_steps (.one step_region) harr⟩
theorem left_nil(h:Q .normal a w):Left P ops Q [] a w:=fun _ _ _ _=>⟨.normal,a,w,h,.one step_region_end⟩
theorem AQ{v:Value}{w':World}(ho:ops[i]?=some o)(hw:Region.wanted o (yielded ops a.tmps)=true)(hr:(execOp a.eval o).run P w=.ok (.value v) w')
  (h:Left P ops Q rest (a.put o.dst v) w'):Left P ops Q (i::rest) a w:=by
 intro b k cs hb;obtain⟨e,a1,w1,hq,harr⟩:=h b k cs hb;have hg:=stepG_op (P:=P) (b:=b) (k:=k) (cs:=cs) (w:=w) (rest:=rest) ho hw;have hfin:(b.at a (.inRegion ops (i::rest)::k)).finish v=b.at (a.put o.dst v) (.inRegion ops rest::k):=by rw[Frame.finish_at,ho];rfl
 refine⟨e,a1,w1,hq,.of_steps (.one (step_lone_go ?_)) harr⟩;rw[hg,<-hfin];simp[stepG.apply,hr]
theorem aav{f:FuncId}{args:Array Value}{w':World}{S:Value->World->Prop}(ho:ops[i]?=some o)(hw:Region.wanted o (yielded ops a.tmps)=true)(hr:(execOp a.eval o).run P w=.ok (.enter f args) w')
  (hc:Calls P f args w' fun e w2=>∃v,e=.returned v/\S v w2)
  (h:∀v w2,S v w2->Left P ops Q rest (a.put o.dst v) w2):Left P ops Q (i::rest) a w:=by
 intro b k cs hb;obtain⟨e,w2,fr,⟨v,rfl,hS⟩,hsteps,_,hleave⟩:=hc (b.at a (.inRegion ops (i::rest)::k)::cs);obtain⟨e,a1,w1,hq,harr⟩:=h v w2 hS b k cs hb;have hg:=stepG_op (P:=P) (b:=b) (k:=k) (cs:=cs) (w:=w) (rest:=rest) ho hw;have hfin:(b.at a (.inRegion ops (i::rest)::k)).finish v=b.at (a.put o.dst v) (.inRegion ops rest::k):=by rw[Frame.finish_at,ho];rfl
 have henter:step P (lone (b.at a (.inRegion ops (i::rest)::k)) cs w)=.next (lone (Frame.enter P f args .normal) (b.at a (.inRegion ops (i::rest)::k)::cs) w'):=step_lone_go (by rw[hg];simp[stepG.apply,hr,Frame.at])
 refine⟨e,a1,w1,hq,.of_steps (.head henter (Steps.trans hsteps (.one ?_))) harr⟩;rw[<-hfin];exact step_leave_returned hleave
theorem aaw{c cap s r:Nat}{buf:Array Value}{v z':Value}{tm:Bool}{w1:World}(ho:ops[i]?=some o)(hw:Region.wanted o (yielded ops a.tmps)=true)
  (hr:(execOp a.eval o).run P w=.ok (.comm #[scase c v z'] true .send) w1) (hc:w1.heap[c]?=some (.chan cap buf false s r tm)) (hroom:buf.size<cap)
  (h:Left P ops Q rest (a.put o.dst undef) (w1.setChan c cap (buf.push v) false (s+1) r tm)):Left P ops Q (i::rest) a w:=by
 intro b k cs hb;obtain⟨e,a1,w2,hq,harr⟩:=h b k cs hb;have hfin:(b.at a (.inRegion ops (i::rest)::k)).finish undef=b.at (a.put o.dst undef) (.inRegion ops rest::k):=by rw[Frame.finish_at,ho];rfl
 have hst:=step_lone_send_room (P:=P) (cs:=cs) (stepG_comm (main:=true) (cs:=cs) (k:=k) (rest:=rest) ho hw hb hr) hc hroom;rw[hfin]at hst;exact⟨e,a1,w2,hq,.of_steps (.one hst) harr⟩
theorem aax{c cap s r:Nat}{buf:Array Value}{z:Value}{tm closed:Bool}{w1:World}(ho:ops[i]?=some o)(hw:Region.wanted o (yielded ops a.tmps)=true)
  (hr:(execOp a.eval o).run P w=.ok (.comm #[rcase c z] true (.recv true)) w1) (hc:w1.heap[c]?=some (.chan cap buf closed s r tm)) (hsome:0<buf.size)
  (h:Left P ops Q rest (a.put o.dst (.tuple #[buf.getD 0 undef,.bool true])) (w1.setChan c cap (buf.extract 1 buf.size) closed s (r+1) tm)):Left P ops Q (i::rest) a w:=by
 intro b k cs hb;obtain⟨e,a1,w2,hq,harr⟩:=h b k cs hb;have hfin:(b.at a (.inRegion ops (i::rest)::k)).finish (got true (buf.getD 0 undef) true)=b.at (a.put o.dst (.tuple #[buf.getD 0 undef,.bool true])) (.inRegion ops rest::k):=by rw[Frame.finish_at,ho];rfl
 have hst:=step_lone_recv_buf (P:=P) (cs:=cs) true (stepG_comm (main:=true) (cs:=cs) (k:=k) (rest:=rest) ho hw hb hr) hc hsome;rw[hfin]at hst;exact⟨e,a1,w2,hq,.of_steps (.one hst) harr⟩
theorem Ja{c cap s r:Nat}{z:Value}{tm:Bool}{w1:World}(ho:ops[i]?=some o)(hw:Region.wanted o (yielded ops a.tmps)=true)
  (hr:(execOp a.eval o).run P w=.ok (.comm #[rcase c z] true (.recv true)) w1) (hc:w1.heap[c]?=some (.chan cap #[] true s r tm))
  (h:Left P ops Q rest (a.put o.dst (.tuple #[z,.bool false])) w1):Left P ops Q (i::rest) a w:=by
 intro b k cs hb;obtain⟨e,a1,w2,hq,harr⟩:=h b k cs hb;have hfin:(b.at a (.inRegion ops (i::rest)::k)).finish (got true z false)=b.at (a.put o.dst (.tuple #[z,.bool false])) (.inRegion ops rest::k):=by rw[Frame.finish_at,ho];rfl
 have hst:=step_lone_recv_shut (P:=P) (cs:=cs) true (stepG_comm (main:=true) (cs:=cs) (k:=k) (rest:=rest) ho hw hb hr) hc;rw[hfin]at hst;exact⟨e,a1,w2,hq,.of_steps (.one hst) harr⟩
end
end Go.Proofs.YtlliliddljkbfaaGreat
namespace Go.Proofs.YtlliliddljkbfaaGreat
open Go.Proofs.Tryz (prog)
open Go.RowKit Go.Conc Sp
theorem acU:∃i,prog.info? 93=some i/\i.bytes=40:=by obtain⟨i,h1,_,_,h4⟩:=info_tok;exact⟨i,h1,h4⟩
theorem aji(n:Nat)(hn:n<=600)(w:World):(Instr.makeChan 202 (.int .i64 (n:Int))).run prog w=.ok (.chan (some w.heap.size)) (w.alloc (.chan n #[] false 0 0 false)):=by obtain⟨i,hi,hb⟩:=acU;exact run_makeChan (P:=prog) (w:=w) Tryz.underlying202 hi .i64 n oo (by rw[hb];omega)
structure iJ(w wr:World)(b c:Nat)(s:ByteArray)(k:Nat)(ts:List Tok):Prop where
 sc:Sc wr b s k
 chan:wr.heap[c]?=some (.chan s.size (ts.map bF).toArray false ts.length 0 false)
 below:Below w.heap.size w wr
 ne:b≠c
 lob:w.heap.size<=b
 loc:w.heap.size<=c
 c0:0<c
theorem iJ.clt{w wr:World}{b c:Nat}{s:ByteArray}{k:Nat}{ts:List Tok}(h:iJ w wr b c s k ts):c<wr.heap.size:=(Ay h.chan)
theorem iJ.went{w wr w':World}{b c:Nat}{s:ByteArray}{k j:Nat}{ts:List Tok}(h:iJ w wr b c s k ts)(hw:aB b s j wr w'):iJ w w' b c s j ts:=⟨hw.1,by rw[hw.2.block c h.clt h.ne.symm];exact h.chan,h.below.trans (hw.2.below h.lob h.below.size),h.ne,h.lob,h.loc,h.c0⟩
theorem iJ.drewN{w wr:World}{b c:Nat}{s:ByteArray}{k:Nat}{ts:List Tok}(h:iJ w wr b c s k ts)(n:Nat):iJ w (wr.drewN n) b c s k ts:=h.went ((aB.refl h.sc).drewN n)
theorem jQ(w:World)(c cap:Nat)(buf:Array Value)(cl:Bool)(s r:Nat)(tm:Bool){j:Nat}(h:j≠c):(w.setChan c cap buf cl s r tm).heap[j]?=w.heap[j]?:=by simp only[World.setChan];rw[Array.getElem?_setIfInBounds_ne oo]
theorem iJ.sent{w wr:World}{b c:Nat}{s:ByteArray}{k:Nat}{ts:List Tok}(h:iJ w wr b c s k ts)(t:Tok):
  iJ w (wr.setChan c s.size ((ts.map bF).toArray.push (bF t)) false (ts.length+1) 0 false) b c s k (ts++[t]):=by
 have hc:=h.c0;refine⟨⟨?_,?_,h.sc.pos,h.sc.len,h.sc.le⟩,?_,below_setChan h.below h.loc _ _ _ _ _ _,h.ne,h.lob,h.loc,h.c0⟩
 .rw[jQ _ _ _ _ _ _ _ _ h.ne];exact h.sc.blk
 .obtain⟨m,hm⟩:=h.sc.glob;exact⟨m,by rw[<-hm];exact World.cell?_of_block (w:=wr) (jQ _ _ _ _ _ _ _ _ (by show(0:Nat)≠c;omega))⟩
 .rw[heap_setChan _ _ _ _ _ _ _ _ h.clt];simp
theorem Df(zM:ByteArray)(w:World)(hs:zM.size<=600)(hg:∃m,w.cell? ⟨0,0,none⟩=some (.int .i64 m))(h0:0<w.heap.size):
  Calls prog 68 #[.string zM] w fun e w'=>∃c cap n,e=.returned (.chan (some c))/\w.heap.size<=c/\w'.heap[c]?=some (.chan cap ((toks (Sp.clean zM)).map bF).toArray true n 0 false)/\Below w.heap.size w w':=by
 have hcs:=oZ zM;have HG:=hid hg;clear hg;refine Dc Tryz.func68 rfl ?_;simp only[Tryz.ntmps68,List.size_toArray,List.length_cons,List.length_nil,Nat.reduceAdd,Nat.reduceSub,Array.replicate_succ,
   Array.replicate_zero,List.push_toArray,List.append_toArray,List.nil_append,List.cons_append]
 refine nN (jI ?_);go_wp2_with fail;refine LD (fun Q' hF=>?_);refine nN (jI ?_);go_wp2_with fail;refine pmb (agq zM w hs) fun w1 hb1=>?_;obtain⟨s,HS⟩:∃s,Hid (Sp.clean zM=s):=⟨_,rfl⟩;rw[HS.o]at hcs⊢;have HB1:=hid hb1;clear hb1;go_wp2_with fail;refine nN (jI ?_);have hmc:=aji s.size oo;go_wp2_with fail;have hw1:w.heap.size<=w1.heap.size:=HB1.o.size;have S0:Hid (iJ w ((w1.alloc (.cells #[.string s,.int .i64 0] 201)).alloc (.chan s.size #[] false 0 0 false)) w1.heap.size (w1.heap.size+1) s 0 []):=by
  refine⟨⟨?_,?_,oo,oo,oo⟩,?_,?_,oo,oo,oo,oo⟩
  .rw[Below.heap_alloc _ _ _ (by simp)];exact heap_alloc_new w1 _
  .obtain⟨m,hm⟩:=HG.o;refine⟨m,?_⟩;rw[<-hm];exact((HB1.o.alloc hw1 _).alloc (by simp;omega) _).cell (p:=⟨0,0,none⟩) h0
  .have:=heap_alloc_new (w1.alloc (.cells #[.string s,.int .i64 0] 201)) (.chan s.size #[] false 0 0 false);simpa using this
  .exact(HB1.o.alloc hw1 _).alloc (by simp;omega) _
 refine nN ?_;refine Et ?_;refine RI (fun n a wr=>∃(k:Nat) (ts:List Tok) (u12 u13 u14 u15 u16:Value),a=⟨#[Value.string zM,undef,Value.chan none,Value.pointer (some ⟨w1.heap.size,0,none⟩),Value.chan (some (w1.heap.size+1)),Value.string zM,Value.string s,Value.agg #[Value.string s,Value.int .i64 0],Value.pointer (some ⟨w1.heap.size,0,none⟩),Value.string s,Value.int .i64 (s.size:Int),Value.chan (some (w1.heap.size+1)),u12,u13,u14,u15,u16,undef,undef],[]⟩/\s.size<=k+n/\ts.length<=k/\ts++tokF s n (com s k)=toks s/\iJ w wr w1.heap.size (w1.heap.size+1) s k ts) s.size ⟨0,[],undef,undef,undef,undef,undef,rfl,oo,by simp,rfl,S0.o⟩ ?_;rintro gk _ wr ⟨k,ts,u12,u13,u14,u15,u16,rfl,hk,htl,hts,hS⟩;have HT:=hid hts;have S1:=hid hS;clear hts hS S0
 have hkl:=S1.o.sc.le;have hcg:=Vq hkl;have hcl:=Af hkl;refine Et ?_;refine nN (jI ?_);go_wp2_with fail;refine pmb (IV s w1.heap.size k _ S1.o.sc) fun w2 aj=>?_;have S2:=hid (S1.o.went aj);clear aj;obtain⟨k1,HK⟩:∃k1,Hid (com s k=k1):=⟨_,rfl⟩;rw[HK.o]at hcg hcl;have S3:Hid (iJ w w2 w1.heap.size (w1.heap.size+1) s k1 ts):=by have:=S2.o;rw[HK.o]at this;exact this
 have HT2:Hid (ts++tokF s gk k1=toks s):=by have:=HT.o;rw[HK.o]at this;exact this
 clear S1 S2 HT;go_wp2_with fail;refine nN (jI ?_);by_cases hend:s.size<=k1
 .have e0:(pk s k1 == -1)=true:=by rw[oK hend];rfl
  have HV:Hid (ts=toks s):=by
   show ts=toks s;rw[<-HT2.o];cases gk with
   |zero=>simp[tokF]
   |succ f=>unfold tokF;rw[if_pos hend];simp
  go_wp2_with fail;refine cZ (ak s w1.heap.size k1 _ k1 _ S3.o.sc ⟨oo,oo,oo⟩) fun nq=>?_;go_wp2_with fail;go_step3
  refine hF.go 0 _ _ _ rfl ?_;clear hF;have S4:=hid (S3.o.drewN nq);obtain⟨w3,hcl,HC,HB⟩:∃w3:World,(∀ats ty,(Builtin.close_ ats ty #[.chan (some (w1.heap.size+1))]).run prog (w2.drewN nq)=.ok (.tuple #[]) w3)/\Hid (w3.heap[w1.heap.size+1]?=some (.chan s.size (ts.map bF).toArray true ts.length 0 false))/\Hid (Below w.heap.size w w3):=⟨(w2.drewN nq).setChan (w1.heap.size+1) s.size (ts.map bF).toArray true ts.length 0 false,fun ats ty=>run_close_open (P:=prog) (w:=w2.drewN nq) ats ty S4.o.chan,heap_setChan _ _ _ _ _ _ _ _ S4.o.clt,below_setChan S4.o.below S4.o.loc _ _ _ _ _ _⟩
  go_wp2_with fail;rw[Exit.noGoto_ret];go_ret;refine⟨w1.heap.size+1,s.size,ts.length,rfl,oo,?_,HB.o⟩;rw[HS.o,<-HV.o];exact HC.o
 .have e0:(pk s k1 == -1)=false:=by have:=tK (s:=s) (i:=k1) oo;simp;omega
  have hlt:k1<s.size:=oo;obtain⟨f,rfl⟩:∃f,gk=f+1:=⟨gk-1,oo⟩;have htg:=xA hlt;have anq:=xB hlt;have HV:Hid (ts++[(token s k1).1]++tokF s f (com s (token s k1).2)=toks s):=by
   show _=_;rw[<-HT2.o];conv=>rhs;unfold tokF
   rw[if_neg hend];simp
  go_wp2_with fail;refine cZ (ak s w1.heap.size k1 _ k1 _ S3.o.sc ⟨oo,oo,oo⟩) fun nq=>?_;have S4:=hid (S3.o.drewN nq);go_wp2_with fail;refine I9 ?_;show Left _ _ _ [0,1,2] _ _;refine AQ (v:=.chan (some (w1.heap.size+1))) (w':=w2.drewN nq) rfl rfl (by simp[go_sem]) ?_;refine aav (f:=114) (args:=#[.pointer (some ⟨w1.heap.size,0,none⟩)]) (w':=w2.drewN nq) (S:=fun v w'=>v=bF (token s k1).1/\aB w1.heap.size s (token s k1).2 (w2.drewN nq) w') rfl rfl (by simp[go_sem]) ((agm s w1.heap.size k1 _ S4.o.sc hlt).mono fun e w' h=>⟨_,h.1,rfl,h.2⟩) ?_;rintro _ w4 ⟨rfl,aj⟩;have S5:=hid (S4.o.went aj);clear aj
  refine aaw (c:=w1.heap.size+1) (cap:=s.size) (s:=ts.length) (r:=0) (buf:=(ts.map bF).toArray) (v:=bF (token s k1).1) (z':=.tuple #[]) (tm:=false) (w1:=w4) rfl rfl (by simp[go_sem,execOp,scase,Act.eval,Act.put]) S5.o.chan (by simp;omega) ?_;refine left_nil ?_;refine⟨f,oo,(token s k1).2,ts++[(token s k1).1],_,_,_,_,_,rfl,oo,by simp;omega,HV.o,S5.o.sent _⟩
end Go.Proofs.YtlliliddljkbfaaGreat
namespace Go.Proofs.YtlliliddljkbfaaGreat
open Go.RowKit Go.Conc Sp
end Go.Proofs.YtlliliddljkbfaaGreat
namespace Go.Proofs.YtlliliddljkbfaaGreat
open Go.Proofs.Tryz (prog)
open Go.RowKit Sp
theorem YK{s:BY}{k:Nat}(h:k<s.size):pk s k=(s[k].toNat:Int):=by unfold pk;rw[dif_pos h]
def allB(p:UInt8->Bool)(s:BY):Bool:=s.data.toList.all p
def rJ(p:UInt8->Bool)(s:BY)(k:Nat):Bool:=(s.data.toList.take k).all p
theorem vU(p:UInt8->Bool){s:BY}{k:Nat}(h:k<s.size):rJ p s (k+1)=(rJ p s k&&p s[k]):=by
 unfold rJ;have h':k<s.data.toList.length:=by simpa using h
 rw[List.take_succ_eq_append_getElem h',List.all_append];simp[ByteArray.getElem_eq_getElem_data]
theorem Eu(p:UInt8->Bool)(s:BY):rJ p s s.size=allB p s:=by unfold rJ allB;rw[List.take_of_length_le (by simp)]
theorem x9(p:UInt8->Bool){s:BY}{k:Nat}(h:k<s.size)(hp:p s[k]=false):allB p s=false:=by
 unfold allB;have h':k<s.data.toList.length:=by simpa using h
 rw[List.all_eq_false];exact⟨s.data.toList[k],List.getElem_mem _,by simpa[ByteArray.getElem_eq_getElem_data]using hp⟩
def eX:wV BY:=fun _ _ s cs=>cs=[.string s]/\s.size<=4194304
def qH:wV (BY×BY):=fun _ _ a cs=>cs=[.string a.1,.string a.2]/\a.1.size<=4194304/\a.2.size<=4194304
def wO:wV Elem:=fun S w x cs=>∃cv av,cs=[.int .i64 x.parent,.string x.tag,.string x.id,cv,av]/\SG eX 1 S w cv x.classes/\SG qH 2 S w av x.attrs/\x.tag.size<=4194304/\x.id.size<=4194304 /\ -9223372036854775808<=x.parent/\x.parent<=9223372036854775807
theorem eX.fair:Fair eX:=fun _ _ _ _ _ _ _ _ h=>h
theorem qH.fair:Fair qH:=fun _ _ _ _ _ _ _ _ h=>h
theorem wO.fair:Fair wO:=by rintro S S' w w' x cs hS hw ⟨cv,av,h1,h2,h3,h4⟩;exact⟨cv,av,h1,h2.keep eX.fair hS hw,h3.keep qH.fair hS hw,h4⟩
theorem wO.sized:ug wO 5:=by rintro S w x cs ⟨cv,av,rfl,_⟩;rfl
structure ak9(S:Nat->Prop)(w:WD)(x:Elem)(g o:Nat)(cv av:Av):Prop where
 s:S g
 c0:w.cell? ⟨g,o,none⟩=some (.int .i64 x.parent)
 c1:w.cell? ⟨g,o+1,none⟩=some (.string x.tag)
 c2:w.cell? ⟨g,o+2,none⟩=some (.string x.id)
 c3:w.cell? ⟨g,o+3,none⟩=some cv
 c4:w.cell? ⟨g,o+4,none⟩=some av
 cl:SG eX 1 S w cv x.classes
 at_:SG qH 2 S w av x.attrs
 tag:x.tag.size<=4194304
 id:x.id.size<=4194304
 lo: -9223372036854775808<=x.parent
 hi:x.parent<=9223372036854775807
theorem EG.el{S:Nat->Prop}{w:WD}{x:Elem}{g o:Nat}(h:EG wO S w x g o):∃cv av,ak9 S w x g o cv av:=by obtain⟨h0,cs,⟨cv,av,rfl,h2,h3,h4,h5,h6,h7⟩,hc⟩:=h;exact⟨cv,av,h0,hc 0 _ rfl,hc 1 _ rfl,hc 2 _ rfl,hc 3 _ rfl,hc 4 _ rfl,h2,h3,h4,h5,h6,h7⟩
theorem LG.el{S:Nat->Prop}{w:WD}{l:List Elem}{g o i:Nat}(h:LG wO 5 S w l g o)(hi:i<l.length):∃cv av,ak9 S w l[i] g (o+i*5) cv av:=(h.at l g o i hi).el
theorem LG.str{S:Nat->Prop}{w:WD}{l:List BY}{g o i:Nat}(h:LG eX 1 S w l g o)(hi:i<l.length):S g/\w.cell? ⟨g,o+i,none⟩=some (.string l[i])/\l[i].size<=4194304:=by obtain⟨h0,cs,⟨rfl,h2⟩,hc⟩:=h.at l g o i hi;have:=hc 0 _ rfl;rw[Nat.mul_one,Nat.add_zero]at this;exact⟨h0,this,h2⟩
theorem LG.att{S:Nat->Prop}{w:WD}{l:List (BY×BY)}{g o i:Nat}(h:LG qH 2 S w l g o)(hi:i<l.length):S g/\w.cell? ⟨g,o+i*2,none⟩=some (.string l[i].1)/\w.cell? ⟨g,o+i*2+1,none⟩=some (.string l[i].2)/\l[i].1.size<=4194304/\l[i].2.size<=4194304:=by obtain⟨h0,cs,⟨rfl,h2,h3⟩,hc⟩:=h.at l g o i hi;exact⟨h0,hc 0 _ rfl,hc 1 _ rfl,h2,h3⟩
def acV(c:BY):Bool:=nameP c&&!decide (c=aA)
def aay(a:BY×BY):Bool:=nameP a.1&&dK a.2&&!decide (a.1=aA)
def Wi(i:Nat)(x:Elem):Bool:=if i=0 then x.parent == -1 else decide (0<=x.parent)&&decide (x.parent<i)
def acW(i:Nat)(x:Elem):Bool:=nameP x.tag&&!decide (x.tag=aA)&&nameP x.id&&decide (x.classes.length<=4)&&decide (x.attrs.length<=4)&&Wi i x
theorem RJ(i:Nat)(x:Elem):xC i x=(acW i x&&x.classes.all acV&&x.attrs.all aay):=rfl
theorem RN:∀(p:aI) (i k:Nat) (h:k<p.length),gI i (p.drop k)=(xC i p[k]&&gI (i+1) (p.drop (k+1)))
 |p,i,k,h=>by rw[List.drop_eq_getElem_cons h];rfl
section
attribute [local go_sem] bI bJ aX aY
def sgB(s:BY):Bool:=s.toList==[43]||s.toList==[45]||s.toList==[42]||s.toList==[47]||s.toList==[46]||s.toList==[44]||s.toList==[58]||s.toList==[37]||s.toList==[61]||s.toList==[40]||s.toList==[91]||s.toList==[123]
theorem RP(s:BY)(w:WD):Calls prog 248 #[.string s] w fun e w'=>e=.returned (.bool (sgB s))/\w'=w:=by
 go_in;go_wp2_with fail;all_goals
  go_ret;refine⟨aC ?_,rfl⟩;first|(simp[sgB, *];done)|(exfalso;simp_all;done)
theorem ajj(t:Tok)(h:t.kind=15):sgB t.word=(!decide (closing t=aA)||vk t.word):=by
 unfold sgB vk;rw[ay,ay,ay,ay,ay,ay,ay,ay,ay,ay,ay,ay];have hc:closing t=if t.word=b1 40 then b1 41 else if t.word=b1 91 then b1 93 else if t.word=b1 123 then b1 125 else aA:=by unfold closing;rw[if_neg (by rw[h];decide),if_pos h]
 rw[hc];show(decide (t.word=b1 43)||decide (t.word=b1 45)||decide (t.word=b1 42)||decide (t.word=b1 47)||decide (t.word=b1 46)||decide (t.word=b1 44)||decide (t.word=b1 58)||decide (t.word=b1 37)||decide (t.word=b1 61)||decide (t.word=b1 40)||decide (t.word=b1 91)||decide (t.word=b1 123))=_;by_cases h1:t.word=b1 40
 .rw[if_pos h1,decide_eq_true h1];simp[show ¬b1 41=aA by decide]
 .rw[if_neg h1,decide_eq_false h1];by_cases h2:t.word=b1 91
  .rw[if_pos h2,decide_eq_true h2];simp[show ¬b1 93=aA by decide]
  .rw[if_neg h2,decide_eq_false h2];by_cases h3:t.word=b1 123
   .rw[if_pos h3,decide_eq_true h3];simp[show ¬b1 125=aA by decide]
   .rw[if_neg h3,decide_eq_false h3];cases decide (t.word=b1 43)<;>cases decide (t.word=b1 45)<;>cases decide (t.word=b1 42)<;>cases decide (t.word=b1 47)<;>cases decide (t.word=b1 46)<;>cases decide (t.word=b1 44)<;>cases decide (t.word=b1 58)<;>cases decide (t.word=b1 37)<;>cases decide (t.word=b1 61)<;>rfl
end
section
attribute [local go_sem] bI bJ aX aY
theorem vV(zs:List BY)(x:BY):zs.contains x=zs.any (fun z=>decide (x=z)):=by
 induction zs with
 |nil=>rfl
 |cons z r ih=>
  rw[List.contains_cons,ih,List.any_cons];congr 1
  rw[Bool.eq_iff_iff];obtain⟨xd⟩:=x;obtain⟨zd⟩:=z;show(xd==zd)=true↔decide (_=_)=true;simp
theorem YL(S:Nat->Prop)(zs:List BY)(v:Av)(x:BY)(w:WD)(h:SG eX 1 S w v zs):
  Calls prog 188 #[v,.string x] w fun e w'=>e=.returned (.bool (zs.contains x))/\w'=w:=by
 obtain⟨a,cap,rfl⟩:=h.form;cases zs with
 |nil=>exact Tryz.slices_Contains_string_empty a cap x w
 |cons z r=>
  have hl:=h.len;obtain⟨g,o,rfl,hL,hcap⟩:=h.here Ab;have:=Tryz.slices_Contains_string g o (z::r).length cap (z::r) x w nl oo (fun j hj=>by have h1:=(hL.str (i:=j) hj).2.1;rw[h1,List.getD_eq_getElem?_getD,List.getElem?_eq_getElem hj];rfl)
  rw[List.take_of_length_le nl,y9,<-vV]at this;exact this
def dF(p:aF)(pv fv av:Av):Av:=.agg #[.string p.root,pv,fv,av,.bool p.aU,.bool p.texts]
structure jK(B:Nat)(w:WD)(p:aF)(pv fv av:Av):Prop where
 props:SG eX 1 (fun b=>b<B) w pv p.props
 aJ:SG eX 1 (fun b=>b<B) w fv p.aJ
 ats:SG eX 1 (fun b=>b<B) w av p.ats
 lt:B<=w.heap.size
theorem jK.below{B:Nat}{w w':WD}{p:aF}{pv fv av:Av}{g:Nat}(h:jK B w p pv fv av)(hb:Below g w w')(hg:B<=g):jK B w' p pv fv av:=⟨h.props.below eX.fair hb hg,h.aJ.below eX.fair hb hg,h.ats.below eX.fair hb hg,Nat.le_trans h.lt hb.size⟩
def Q6(w:WD)(b:Nat)(x0 x1 x2 x3 x4 x5:Av):Prop:=w.heap[b]?=some (.cells #[x0,x1,x2,x3,x4,x5] 82 (0,0))
section
variable {w w':WD} {b:Nat} {x0 x1 x2 x3 x4 x5:Av}
theorem Q6.lt(h:Q6 w b x0 x1 x2 x3 x4 x5):b<w.heap.size:=(Ay h)
theorem Q6.cs(h:Q6 w b x0 x1 x2 x3 x4 x5):w.cell? ⟨b,0,none⟩=some x0/\w.cell? ⟨b,1,none⟩=some x1/\w.cell? ⟨b,2,none⟩=some x2/\w.cell? ⟨b,3,none⟩=some x3/\w.cell? ⟨b,4,none⟩=some x4/\w.cell? ⟨b,5,none⟩=some x5:=by have h':w.heap[b]?=_:=h;refine⟨?_,?_,?_,?_,?_,?_⟩<;>(unfold World.cell?;rw[h'];rfl)
theorem Q6.below{g:Nat}(h:Q6 w b x0 x1 x2 x3 x4 x5)(hb:Below g w w')(hg:b<g):Q6 w' b x0 x1 x2 x3 x4 x5:=by show _=_;rw[hb.block b hg];exact h
theorem Q6.new(w:WD)(x0 x1 x2 x3 x4 x5:Av):Q6 (w.alloc (.cells #[x0,x1,x2,x3,x4,x5] 82)) w.heap.size x0 x1 x2 x3 x4 x5:=heap_alloc_new w _
theorem Q6.nb(p:aF)(pa fa aa:Option Addr)(pc fc ac:Nat)(w:WD):Hid (Below w.heap.size w (w.alloc (.cells #[.string p.root,.slice pa p.props.length pc,.slice fa p.aJ.length fc,.slice aa p.ats.length ac,.bool p.aU,.bool p.texts] 82)))/\Hid (Q6 (w.alloc (.cells #[.string p.root,.slice pa p.props.length pc,.slice fa p.aJ.length fc,.slice aa p.ats.length ac,.bool p.aU,.bool p.texts] 82)) w.heap.size (.string p.root) (.slice pa p.props.length pc) (.slice fa p.aJ.length fc) (.slice aa p.ats.length ac) (.bool p.aU) (.bool p.texts)):=⟨Ax.alloc nl _,Q6.new _ _ _ _ _ _ _⟩
theorem Q6.alloc(h:Q6 w b x0 x1 x2 x3 x4 x5)(o:Obj):Q6 (w.alloc o) b x0 x1 x2 x3 x4 x5:=h.below (Ax.alloc nl _) h.lt
end
section
variable (p:aF) (pa fa aa:Option Addr) (pl pc fl fc al ac:Nat) (wd un:BY) (ka:Option Addr) (kl kc:Nat) (w:WD)
theorem fJ(o1 o2:Obj):Below w.heap.size w ((w.alloc o1).alloc o2):=(Ax.alloc nl _).alloc Ab _
theorem ala:Calls prog 189 #[dF p (.slice pa pl pc) (.slice fa fl fc) (.slice aa al ac),.agg #[.int .i64 2,.string wd,.string un,.slice ka kl kc]] w fun e w'=>e=.returned (.bool p.texts)/\Below w.heap.size w w':=by have B2:Hid (Below w.heap.size w ((w.alloc (.cells #[.string p.root,.slice pa pl pc,.slice fa fl fc,.slice aa al ac,.bool p.aU,.bool p.texts] 82)).alloc (.cells #[.int .i64 2,.string wd,.string un,.slice ka kl kc] 199))):=fJ _ _ _;unfold dF;go_in;go_wp2_with fail;go_ret;exact⟨rfl,B2.o⟩
theorem alb:Calls prog 189 #[dF p (.slice pa pl pc) (.slice fa fl fc) (.slice aa al ac),.agg #[.int .i64 1,.string wd,.string un,.slice ka kl kc]] w fun e w'=>e=.returned (.bool true)/\Below w.heap.size w w':=by have B2:Hid (Below w.heap.size w ((w.alloc (.cells #[.string p.root,.slice pa pl pc,.slice fa fl fc,.slice aa al ac,.bool p.aU,.bool p.texts] 82)).alloc (.cells #[.int .i64 1,.string wd,.string un,.slice ka kl kc] 199))):=fJ _ _ _;unfold dF;go_in;go_wp2_with fail;go_ret;exact⟨rfl,B2.o⟩
theorem alc:Calls prog 189 #[dF p (.slice pa pl pc) (.slice fa fl fc) (.slice aa al ac),.agg #[.int .i64 4,.string wd,.string un,.slice ka kl kc]] w fun e w'=>e=.returned (.bool true)/\Below w.heap.size w w':=by have B2:Hid (Below w.heap.size w ((w.alloc (.cells #[.string p.root,.slice pa pl pc,.slice fa fl fc,.slice aa al ac,.bool p.aU,.bool p.texts] 82)).alloc (.cells #[.int .i64 4,.string wd,.string un,.slice ka kl kc] 199))):=fJ _ _ _;unfold dF;go_in;go_wp2_with fail;go_ret;exact⟨rfl,B2.o⟩
theorem ald:Calls prog 189 #[dF p (.slice pa pl pc) (.slice fa fl fc) (.slice aa al ac),.agg #[.int .i64 5,.string wd,.string un,.slice ka kl kc]] w fun e w'=>e=.returned (.bool true)/\Below w.heap.size w w':=by have B2:Hid (Below w.heap.size w ((w.alloc (.cells #[.string p.root,.slice pa pl pc,.slice fa fl fc,.slice aa al ac,.bool p.aU,.bool p.texts] 82)).alloc (.cells #[.int .i64 5,.string wd,.string un,.slice ka kl kc] 199))):=fJ _ _ _;unfold dF;go_in;go_wp2_with fail;go_ret;exact⟨rfl,B2.o⟩
theorem ale:Calls prog 189 #[dF p (.slice pa pl pc) (.slice fa fl fc) (.slice aa al ac),.agg #[.int .i64 6,.string wd,.string un,.slice ka kl kc]] w fun e w'=>e=.returned (.bool true)/\Below w.heap.size w w':=by have B2:Hid (Below w.heap.size w ((w.alloc (.cells #[.string p.root,.slice pa pl pc,.slice fa fl fc,.slice aa al ac,.bool p.aU,.bool p.texts] 82)).alloc (.cells #[.int .i64 6,.string wd,.string un,.slice ka kl kc] 199))):=fJ _ _ _;unfold dF;go_in;go_wp2_with fail;go_ret;exact⟨rfl,B2.o⟩
theorem alf:Calls prog 189 #[dF p (.slice pa pl pc) (.slice fa fl fc) (.slice aa al ac),.agg #[.int .i64 7,.string wd,.string un,.slice ka kl kc]] w fun e w'=>e=.returned (.bool true)/\Below w.heap.size w w':=by have B2:Hid (Below w.heap.size w ((w.alloc (.cells #[.string p.root,.slice pa pl pc,.slice fa fl fc,.slice aa al ac,.bool p.aU,.bool p.texts] 82)).alloc (.cells #[.int .i64 7,.string wd,.string un,.slice ka kl kc] 199))):=fJ _ _ _;unfold dF;go_in;go_wp2_with fail;go_ret;exact⟨rfl,B2.o⟩
theorem ajk:Calls prog 189 #[dF p (.slice pa pl pc) (.slice fa fl fc) (.slice aa al ac),.agg #[.int .i64 14,.string wd,.string un,.slice ka kl kc]] w fun e w'=>e=.returned (.bool true)/\Below w.heap.size w w':=by have B2:Hid (Below w.heap.size w ((w.alloc (.cells #[.string p.root,.slice pa pl pc,.slice fa fl fc,.slice aa al ac,.bool p.aU,.bool p.texts] 82)).alloc (.cells #[.int .i64 14,.string wd,.string un,.slice ka kl kc] 199))):=fJ _ _ _;unfold dF;go_in;go_wp2_with fail;go_ret;exact⟨rfl,B2.o⟩
theorem alg:Calls prog 189 #[dF p (.slice pa pl pc) (.slice fa fl fc) (.slice aa al ac),.agg #[.int .i64 3,.string wd,.string un,.slice ka kl kc]] w fun e w'=>e=.returned (.bool false)/\Below w.heap.size w w':=by have B2:Hid (Below w.heap.size w ((w.alloc (.cells #[.string p.root,.slice pa pl pc,.slice fa fl fc,.slice aa al ac,.bool p.aU,.bool p.texts] 82)).alloc (.cells #[.int .i64 3,.string wd,.string un,.slice ka kl kc] 199))):=fJ _ _ _;unfold dF;go_in;go_wp2_with fail;go_ret;exact⟨rfl,B2.o⟩
theorem alh:Calls prog 189 #[dF p (.slice pa pl pc) (.slice fa fl fc) (.slice aa al ac),.agg #[.int .i64 8,.string wd,.string un,.slice ka kl kc]] w fun e w'=>e=.returned (.bool false)/\Below w.heap.size w w':=by have B2:Hid (Below w.heap.size w ((w.alloc (.cells #[.string p.root,.slice pa pl pc,.slice fa fl fc,.slice aa al ac,.bool p.aU,.bool p.texts] 82)).alloc (.cells #[.int .i64 8,.string wd,.string un,.slice ka kl kc] 199))):=fJ _ _ _;unfold dF;go_in;go_wp2_with fail;go_ret;exact⟨rfl,B2.o⟩
theorem ali:Calls prog 189 #[dF p (.slice pa pl pc) (.slice fa fl fc) (.slice aa al ac),.agg #[.int .i64 9,.string wd,.string un,.slice ka kl kc]] w fun e w'=>e=.returned (.bool false)/\Below w.heap.size w w':=by have B2:Hid (Below w.heap.size w ((w.alloc (.cells #[.string p.root,.slice pa pl pc,.slice fa fl fc,.slice aa al ac,.bool p.aU,.bool p.texts] 82)).alloc (.cells #[.int .i64 9,.string wd,.string un,.slice ka kl kc] 199))):=fJ _ _ _;unfold dF;go_in;go_wp2_with fail;go_ret;exact⟨rfl,B2.o⟩
theorem ajl:Calls prog 189 #[dF p (.slice pa pl pc) (.slice fa fl fc) (.slice aa al ac),.agg #[.int .i64 10,.string wd,.string un,.slice ka kl kc]] w fun e w'=>e=.returned (.bool false)/\Below w.heap.size w w':=by have B2:Hid (Below w.heap.size w ((w.alloc (.cells #[.string p.root,.slice pa pl pc,.slice fa fl fc,.slice aa al ac,.bool p.aU,.bool p.texts] 82)).alloc (.cells #[.int .i64 10,.string wd,.string un,.slice ka kl kc] 199))):=fJ _ _ _;unfold dF;go_in;go_wp2_with fail;go_ret;exact⟨rfl,B2.o⟩
theorem ajm:Calls prog 189 #[dF p (.slice pa pl pc) (.slice fa fl fc) (.slice aa al ac),.agg #[.int .i64 12,.string wd,.string un,.slice ka kl kc]] w fun e w'=>e=.returned (.bool false)/\Below w.heap.size w w':=by have B2:Hid (Below w.heap.size w ((w.alloc (.cells #[.string p.root,.slice pa pl pc,.slice fa fl fc,.slice aa al ac,.bool p.aU,.bool p.texts] 82)).alloc (.cells #[.int .i64 12,.string wd,.string un,.slice ka kl kc] 199))):=fJ _ _ _;unfold dF;go_in;go_wp2_with fail;go_ret;exact⟨rfl,B2.o⟩
theorem ajn:Calls prog 189 #[dF p (.slice pa pl pc) (.slice fa fl fc) (.slice aa al ac),.agg #[.int .i64 13,.string wd,.string un,.slice ka kl kc]] w fun e w'=>e=.returned (.bool false)/\Below w.heap.size w w':=by have B2:Hid (Below w.heap.size w ((w.alloc (.cells #[.string p.root,.slice pa pl pc,.slice fa fl fc,.slice aa al ac,.bool p.aU,.bool p.texts] 82)).alloc (.cells #[.int .i64 13,.string wd,.string un,.slice ka kl kc] 199))):=fJ _ _ _;unfold dF;go_in;go_wp2_with fail;go_ret;exact⟨rfl,B2.o⟩
theorem ajo:Calls prog 189 #[dF p (.slice pa pl pc) (.slice fa fl fc) (.slice aa al ac),.agg #[.int .i64 15,.string wd,.string un,.slice ka kl kc]] w fun e w'=>e=.returned (.bool (sgB wd))/\Below w.heap.size w w':=by have B2:Hid (Below w.heap.size w ((w.alloc (.cells #[.string p.root,.slice pa pl pc,.slice fa fl fc,.slice aa al ac,.bool p.aU,.bool p.texts] 82)).alloc (.cells #[.int .i64 15,.string wd,.string un,.slice ka kl kc] 199))):=fJ _ _ _;unfold dF;go_in;go_wp2_with fail;refine pmb (RP wd _) fun wq hwq=>?_;rw[hwq];go_wp2_with fail;go_ret;exact⟨rfl,B2.o⟩
end
end
section
attribute [local go_sem] bI bJ aX aY
theorem Q6.drew{w:WD}{b:Nat}{x0 x1 x2 x3 x4 x5:Av}(h:Q6 w b x0 x1 x2 x3 x4 x5):Q6 w.drew b x0 x1 x2 x3 x4 x5:=h
theorem ajp(B:Nat)(p:aF)(pa fa aa:Option Addr)(pl pc fc al ac:Nat)(wd un:BY)(ka:Option Addr)(kl kc:Nat)(w:WD)(hf:SG eX 1 (fun b=>b<B) w (.slice fa p.aJ.length fc) p.aJ)(hB:B<=w.heap.size)(hw:wd.size<=4000000):
  Calls prog 189 #[dF p (.slice pa pl pc) (.slice fa p.aJ.length fc) (.slice aa al ac),.agg #[.int .i64 11,.string wd,.string un,.slice ka kl kc]] w fun e w'=>e=.returned (.bool (p.aJ.contains (small wd)))/\Below w.heap.size w w':=by
 have B2:Hid (Below w.heap.size w ((w.alloc (.cells #[.string p.root,.slice pa pl pc,.slice fa p.aJ.length fc,.slice aa al ac,.bool p.aU,.bool p.texts] 82)).alloc (.cells #[.int .i64 11,.string wd,.string un,.slice ka kl kc] 199)).drew):=(fJ w _ _).drew;have P2:Hid (Q6 ((w.alloc (.cells #[.string p.root,.slice pa pl pc,.slice fa p.aJ.length fc,.slice aa al ac,.bool p.aU,.bool p.texts] 82)).alloc (.cells #[.int .i64 11,.string wd,.string un,.slice ka kl kc] 199)).drew w.heap.size (.string p.root) (.slice pa pl pc) (.slice fa p.aJ.length fc) (.slice aa al ac) (.bool p.aU) (.bool p.texts)):=(Q6.new w _ _ _ _ _ _).alloc _
 have A2:Hid (VB ((w.alloc (.cells #[.string p.root,.slice pa pl pc,.slice fa p.aJ.length fc,.slice aa al ac,.bool p.aU,.bool p.texts] 82)).alloc (.cells #[.int .i64 11,.string wd,.string un,.slice ka kl kc] 199)).drew (w.heap.size+1) (.int .i64 11) (.string wd) (.string un) (.slice ka kl kc)):=by have:=VB.new (w.alloc (.cells #[.string p.root,.slice pa pl pc,.slice fa p.aJ.length fc,.slice aa al ac,.bool p.aU,.bool p.texts] 82)) (.int .i64 11) (.string wd) (.string un) (.slice ka kl kc);rw[show(w.alloc (.cells #[.string p.root,.slice pa pl pc,.slice fa p.aJ.length fc,.slice aa al ac,.bool p.aU,.bool p.texts] 82)).heap.size=w.heap.size+1 by simp]at this;exact this
 have F2:=hid (hf.below eX.fair B2.o hB);clear hf;unfold dF;go_in;go_wp2_with fail;refine wp_region_any Ao ?_;change wpAny _ _ _ _ _ _ _ (World.drew _);generalize((w.alloc (.cells #[.string p.root,.slice pa pl pc,.slice fa p.aJ.length fc,.slice aa al ac,.bool p.aU,.bool p.texts] 82)).alloc (.cells #[.int .i64 11,.string wd,.string un,.slice ka kl kc] 199)).drew=w2 at *;have hs2:=B2.o.size
 have Qi:Hid (Q6 w2 w.heap.size (.string p.root) (.slice pa pl pc) (.slice fa p.aJ.length fc) (.slice aa al ac) (.bool p.aU) (.bool p.texts)/\VB w2 (w.heap.size+1) (.int .i64 11) (.string wd) (.string un) (.slice ka kl kc)):=⟨P2.o,A2.o⟩;refine wpAny_of_held (S:=fun wx=>Q6 wx w.heap.size (.string p.root) (.slice pa pl pc) (.slice fa p.aJ.length fc) (.slice aa al ac) (.bool p.aU) (.bool p.texts)/\VB wx (w.heap.size+1) (.int .i64 11) (.string wd) (.string un) (.slice ka kl kc)) _ _ _ _ ?_;refine dH 0 rfl Qi.o (by intro w hSw;obtain⟨a0,a1,a2,a3,a4,a5⟩:=hSw.1.cs;exact gs) ?_;refine dH 1 rfl Qi.o (by intro w hSw;obtain⟨a0,a1,a2,a3,a4,a5⟩:=hSw.1.cs;exact gs) ?_;refine dH 2 rfl Qi.o (by intro w hSw;obtain⟨a0,a1,a2,a3,a4,a5⟩:=hSw.1.cs;exact gs) ?_
 refine dH 3 rfl Qi.o (by intro w hSw;obtain⟨a0,a1,a2,a3⟩:=hSw.2.cs;exact gs) ?_;refine dH 4 rfl Qi.o (by intro w hSw;obtain⟨a0,a1,a2,a3⟩:=hSw.2.cs;exact gs) ?_;refine dH 5 rfl Qi.o (by intro w hSw;obtain⟨a0,a1,a2,a3⟩:=hSw.2.cs;exact gs) ?_;refine iW 6 fun K hK=>?_;go_simp;refine pmb (nH wd _ hw) fun w3 hb3=>?_;have B3:=hid (B2.o.trans (hb3.mono hs2));have OC:Hid (Q6 w3 w.heap.size (.string p.root) (.slice pa pl pc) (.slice fa p.aJ.length fc) (.slice aa al ac) (.bool p.aU) (.bool p.texts)/\VB w3 (w.heap.size+1) (.int .i64 11) (.string wd) (.string un) (.slice ka kl kc)):=⟨Qi.o.1.below hb3 Qi.o.1.lt,Qi.o.2.below hb3⟩;have F3:=hid (F2.o.below eX.fair hb3 oo);clear hb3
 refine hK.o _ _ OC.o (fun _=>?_);clear hK K;refine iW 7 fun K hK=>?_;go_simp;refine pmb (YL _ p.aJ _ (small wd) w3 F3.o) fun w4 hw4=>?_;rw[hw4];refine hK.o _ _ OC.o (fun _=>?_);clear hK K;refine iW 8 fun K hK=>?_;go_simp;refine hK.o _ _ (OC.o) (fun _=>?_);clear hK K;refine wpAnyH_done Ao ?_ _;go_wp2_with fail;go_ret;exact⟨rfl,B3.o⟩
def Qj(t:Tok):Bool:=decide (1<=t.kind)&&decide (t.kind<=15)
def OJ(l:List Nd):Prop:=jg (fun t=>!Qj t) l=false
theorem Nk(g:Tok->Bool)(n:Nd)(r:List Nd):jg g (n::r)=(g n.t||jg g n.kids||jg g r):=by
 obtain⟨t,k⟩:=n;conv=>lhs;unfold jg;unfold Qz
 rfl
theorem Jb{n:Nd}{r:List Nd}(h:OJ (n::r)):Qj n.t=true/\OJ n.kids/\OJ r:=by unfold OJ at h;rw[Nk]at h;simp only[Bool.or_eq_false_iff,Bool.not_eq_false']at h;exact⟨h.1.1,h.1.2,h.2⟩
theorem pz(p:aF)(n:Nd)(r:List Nd):eH p (n::r)=(oI p n.t&&eH p n.kids&&eH p r):=by unfold eH;rw[Nk];cases oI p n.t<;>simp
theorem agr(B:Nat)(p:aF)(pv fv av:Av)(t:Tok)(ka:Option Addr)(kl kc:Nat)(w:WD)(h:jK B w p pv fv av)(hk:Qj t=true)(hw:t.word.size<=4000000):
  Calls prog 189 #[dF p pv fv av,fB t (.slice ka kl kc)] w fun e w'=>e=.returned (.bool (oI p t))/\Below w.heap.size w w':=by
 obtain⟨pa,pc,rfl⟩:=h.props.form;obtain⟨fa,fc,rfl⟩:=h.aJ.form;obtain⟨aa,ac,rfl⟩:=h.ats.form;obtain⟨kd,wd,un⟩:=t;unfold Qj at hk;simp only[Bool.and_eq_true,decide_eq_true_eq]at hk;unfold fB;rcases(show kd=1\/kd=2\/kd=3\/kd=4\/kd=5\/kd=6\/kd=7\/kd=8\/kd=9\/kd=10\/kd=11\/kd=12\/kd=13\/kd=14\/kd=15 by omega)with e|e|e|e|e|e|e|e|e|e|e|e|e|e|e<;>subst e
 .exact alb _ _ _ _ _ _ _ _ _ _ _ _ _ _ _ w
 .exact ala _ _ _ _ _ _ _ _ _ _ _ _ _ _ _ w
 .exact alg _ _ _ _ _ _ _ _ _ _ _ _ _ _ _ w
 .exact alc _ _ _ _ _ _ _ _ _ _ _ _ _ _ _ w
 .exact ald _ _ _ _ _ _ _ _ _ _ _ _ _ _ _ w
 .exact ale _ _ _ _ _ _ _ _ _ _ _ _ _ _ _ w
 .exact alf _ _ _ _ _ _ _ _ _ _ _ _ _ _ _ w
 .exact alh _ _ _ _ _ _ _ _ _ _ _ _ _ _ _ w
 .exact ali _ _ _ _ _ _ _ _ _ _ _ _ _ _ _ w
 .exact ajl _ _ _ _ _ _ _ _ _ _ _ _ _ _ _ w
 .exact ajp B p _ _ _ _ _ _ _ _ _ _ _ _ _ w h.aJ h.lt hw
 .exact ajm _ _ _ _ _ _ _ _ _ _ _ _ _ _ _ w
 .exact ajn _ _ _ _ _ _ _ _ _ _ _ _ _ _ _ w
 .exact ajk _ _ _ _ _ _ _ _ _ _ _ _ _ _ _ w
 .have e:=ajj ⟨15,wd,un⟩ rfl;have e2:oI p ⟨15,wd,un⟩=sgB wd:=by show(!decide (closing ⟨15,wd,un⟩=aA)||vk wd)=_;exact e.symm
  rw[e2];exact ajo _ _ _ _ _ _ _ _ _ _ _ _ _ _ _ w
end
section
attribute [local go_sem] bI bJ aX aY
def Jc(l:List Nd):Prop:=∀(B:Nat) (p:aF) (pv fv av v:Av) (w:WD),jK B w p pv fv av->Sl (fun b=>b<B) w v l->OJ l->Calls prog 117 #[dF p pv fv av,v] w fun e w'=>e=.returned (.bool (eH p l))/\Below w.heap.size w w'
theorem RQ:∀(l:List Nd) (i:Nat),OJ l->OJ (l.drop i)
 |l,0,h=>by simpa using h
 |[],i+1,h=>h
 |n::r,i+1,h=>by simpa using RQ r i (Jb h).2.2
theorem zY(l:List Nd)(hrec:∀n∈l,Jc n.kids):Jc l:=by
 intro B p pv fv av v w hP h hkd;have FU:=h.len;have hB:=hP.lt;have HS:=hid h;have HR:=hid hrec;have HKD:=hid hkd;obtain⟨a,cap,rfl⟩:=h.form;obtain⟨pa,pc,rfl⟩:=hP.props.form;obtain⟨fa,fc,rfl⟩:=hP.aJ.form;obtain⟨aa,ac,rfl⟩:=hP.ats.form;have HP:=hid hP;clear h hrec hkd hP;obtain⟨B0,Q0⟩:=Q6.nb p pa fa aa pc fc ac w;unfold dF;go_in;go_upto_region 1 with fail
 have hsz0:=B0.o.size;have hlt0:=Q0.o.lt;generalize w.alloc (.cells #[.string p.root,.slice pa p.props.length pc,.slice fa p.aJ.length fc,.slice aa p.ats.length ac,.bool p.aU,.bool p.texts] 82)=w0 at *;obtain⟨rb,zV⟩:=Nm w.heap.size;rw[zV.o]at B0 Q0 hB hlt0 hsz0⊢;have wX:=hid (HP.o.below B0.o hB);have HS0:=hid (HS.o.below B0.o hB);clear HP HS;go_wp2_with fail;go_loopg[9] l.length (fun gg v9 wr=>∃i:Nat,v9=.int .i64 (i:Int)/\i+gg=l.length/\Aside (Below w0.heap.size w0 wr/\eH p l=eH p (l.drop i)));case atStart=>exact⟨0,rfl,oo,Ax,by simp⟩
 case round=>
  obtain⟨i,rfl,hi,hA⟩:=hrel;have BR:=hid hA.o.1;have HE:=hid hA.o.2;clear hA;have hsr:=BR.o.size;by_cases hlt:i<l.length
  .have h1:(i:Int)<(l.length:Int):=oo;have S1:=HS0.o.below BR.o oo;obtain⟨g,o,rfl,hL,hcap⟩:=S1.here (by rintro rfl;simp at hlt);obtain⟨kv,hN⟩:=hL.node (i:=i) hlt;obtain⟨n,hn⟩:∃n,n=l[i]:=⟨_,rfl⟩;have HM:Hid (n∈l):=by rw[hn];exact List.getElem_mem _
   have Hdr:Hid (l.drop i=n::l.drop (i+1)):=by show _=_;rw[hn];exact List.drop_eq_getElem_cons hlt
   rw[<-hn]at hN;have HKS:Hid (Qj n.t=true/\OJ n.kids):=by have:=RQ l i HKD.o;rw[Hdr.o]at this;exact⟨(Jb this).1,(Jb this).2.1⟩
   have HE2:Hid (eH p l=(oI p n.t&&eH p n.kids&&eH p (l.drop (i+1)))):=by show _=_;rw[HE.o,Hdr.o,pz]
   have hwd:=hN.ok.word;have HKV:=hid hN.k;obtain⟨ka,kc,rfl⟩:=hN.k.form;have d0:=hN.c0;have d1:=hN.c1;have d2:=hN.c2;have d3:=hN.c3;clear hN hL S1 hn;have A2:Hid (VB (wr.alloc (.cells #[.int .i64 n.t.kind,.string n.t.word,.string n.t.unit,.slice ka n.kids.length kc] 199)) wr.heap.size (.int .i64 n.t.kind) (.string n.t.word) (.string n.t.unit) (.slice ka n.kids.length kc)):=VB.new _ _ _ _ _;have X2:Hid (Below wr.heap.size wr (wr.alloc (.cells #[.int .i64 n.t.kind,.string n.t.word,.string n.t.unit,.slice ka n.kids.length kc] 199))):=Ax.alloc nl _;go_upto_region 4 with fail
   generalize wr.alloc (.cells #[.int .i64 n.t.kind,.string n.t.word,.string n.t.unit,.slice ka n.kids.length kc] 199)=w2 at *;obtain⟨gt,mV⟩:=Nm wr.heap.size;have A3:Hid (VB w2 gt (.int .i64 n.t.kind) (.string n.t.word) (.string n.t.unit) (.slice ka n.kids.length kc)):=by rw[<-mV.o];exact A2.o
   rw[mV.o];clear A2 d0 d1 d2 d3;obtain⟨a0,a1,a2,a3⟩:=A3.o.cs;have B2:=hid (BR.o.trans (X2.o.mono hsr));have hs2:=B2.o.size;have Q2:=Q0.o.below B2.o hlt0;obtain⟨q0,q1,q2,q3,q4,q5⟩:=Q2.cs;clear Q2;have HMB:=agr B p _ _ _ n.t ka n.kids.length kc w2 (wX.o.below B2.o oo) HKS.o.1 hwd;obtain⟨z,Hz⟩:=Nm (oI p n.t);rw[Hz.o]at HMB HE2;unfold dF fB at HMB;have alj:=hid HMB;clear HMB;go_wp2_with fail;refine alj.o.mono ?_;rintro e w3 ⟨rfl,hb3⟩;have B3:=hid (B2.o.trans (hb3.mono hs2))
   have A4:=hid (A3.o.below hb3);have K3:=hid ((HKV.o.below X2.o oo).below hb3 oo);have hs3:=B3.o.size;clear hb3 a0 a1 a2 a3 q0 q1 q2 q3 q4 q5 alj;obtain⟨a0,a1,a2,a3⟩:=A4.o.cs;have Q3':=Q0.o.below B3.o hlt0;obtain⟨q0,q1,q2,q3,q4,q5⟩:=Q3'.cs;clear Q3';cases z
   .have HV:Hid (eH p l=false):=HE2.o;go_wp2_with fail;go_ret;exact⟨aC HV.o.symm,by rw[zV.o];exact B0.o.trans (B3.o.mono hsz0)⟩
   .have HC:=HR.o n HM.o B p (.slice pa p.props.length pc) (.slice fa p.aJ.length fc) (.slice aa p.ats.length ac) (.slice ka n.kids.length kc) w3 (wX.o.below B3.o oo) K3.o HKS.o.2;obtain⟨z2,Hz2⟩:=Nm (eH p n.kids);rw[Hz2.o]at HC HE2;unfold dF at HC;have HC':Hid (Calls prog 117 #[.agg #[.string p.root,.slice pa p.props.length pc,.slice fa p.aJ.length fc,.slice aa p.ats.length ac,.bool p.aU,.bool p.texts],.slice ka n.kids.length kc] w3 fun e w'=>e=.returned (.bool z2)/\Below w3.heap.size w3 w'):=HC;clear HC;go_wp2_with fail;refine HC'.o.mono ?_;rintro e w4 ⟨rfl,hb4⟩;have B4:=hid (B3.o.trans (hb4.mono hs3));clear hb4 HC' a0 a1 a2 a3 q0 q1 q2 q3 q4 q5;cases z2
    .have HV:Hid (eH p l=false):=HE2.o;go_wp2_with fail;go_ret;exact⟨aC HV.o.symm,by rw[zV.o];exact B0.o.trans (B4.o.mono hsz0)⟩
    .have HV:Hid (eH p l=eH p (l.drop (i+1))):=HE2.o;go_wp2_with fail;go_roundg(gk-1);case measure=>omega
     case rel=>exact⟨i+1,by congr 1,oo,B4.o,HV.o⟩
  .have h1:(l.length:Int)<=(i:Int):=oo;have HV:Hid (eH p l=true):=by show _=_;rw[HE.o,List.drop_of_length_le oo];rfl
   go_wp2_with fail;go_ret;exact⟨aC HV.o.symm,by rw[zV.o];exact B0.o.trans (BR.o.mono hsz0)⟩
theorem LH:∀(k:Nat) (l:List Nd),dL l<=k->Jc l:=by
 intro k;induction k with
 |zero=>intro l h;refine zY l fun n hn=>?_;have:=nK l n hn;obtain⟨t,q⟩:=n;unfold Cc at this;omega
 |succ k ih=>intro l h;refine zY l fun n hn=>ih _ ?_;have:=nK l n hn;obtain⟨t,q⟩:=n;unfold Cc at this;show dL q<=k;omega
theorem Dh(l:List Nd):Jc l:=LH _ l nl
end
section
attribute [local go_sem] bI bJ aX aY
section
variable (B:Nat) (p:aF) (pv fv av:Av) (w:WD)
theorem aaz(h:jK B w p pv fv av):Calls prog 123 #[dF p pv fv av] w fun e w'=>e=.returned (.string p.root)/\Below w.heap.size w w':=by obtain⟨pa,pc,rfl⟩:=h.props.form;obtain⟨fa,fc,rfl⟩:=h.aJ.form;obtain⟨aa,ac,rfl⟩:=h.ats.form;have B0:Hid (Below w.heap.size w (w.alloc (.cells #[.string p.root,.slice pa p.props.length pc,.slice fa p.aJ.length fc,.slice aa p.ats.length ac,.bool p.aU,.bool p.texts] 82))):=Ax.alloc nl _;clear h;unfold dF;go_in;go_wp2_with fail;go_ret;exact⟨rfl,B0.o⟩
theorem LJ(x:BY)(h:jK B w p pv fv av):Calls prog 116 #[dF p pv fv av,.string x] w fun e w'=>e=.returned (.bool (p.ats.contains x))/\Below w.heap.size w w':=by obtain⟨pa,pc,rfl⟩:=h.props.form;obtain⟨fa,fc,rfl⟩:=h.aJ.form;obtain⟨aa,ac,rfl⟩:=h.ats.form;have B0:Hid (Below w.heap.size w (w.alloc (.cells #[.string p.root,.slice pa p.props.length pc,.slice fa p.aJ.length fc,.slice aa p.ats.length ac,.bool p.aU,.bool p.texts] 82))):=Ax.alloc nl _;have HA:=hid (h.ats.below eX.fair B0.o h.lt);clear h;unfold dF;go_in;go_wp2_with fail;refine pmb (YL _ p.ats _ x _ HA.o) fun wq hwq=>?_;rw[hwq];go_wp2_with fail;go_ret;exact⟨rfl,B0.o⟩
theorem F6(x:BY)(h:jK B w p pv fv av):Calls prog 193 #[dF p pv fv av,.string x] w fun e w'=>e=.returned (.bool (if custom x=true then p.aU else p.props.contains x))/\Below w.heap.size w w':=by
 obtain⟨pa,pc,rfl⟩:=h.props.form;obtain⟨fa,fc,rfl⟩:=h.aJ.form;obtain⟨aa,ac,rfl⟩:=h.ats.form;have B0:Hid (Below w.heap.size w (w.alloc (.cells #[.string p.root,.slice pa p.props.length pc,.slice fa p.aJ.length fc,.slice aa p.ats.length ac,.bool p.aU,.bool p.texts] 82))):=Ax.alloc nl _;have HA:=hid (h.props.below eX.fair B0.o h.lt)
 have Q0:Hid (Q6 (w.alloc (.cells #[.string p.root,.slice pa p.props.length pc,.slice fa p.aJ.length fc,.slice aa p.ats.length ac,.bool p.aU,.bool p.texts] 82)) w.heap.size (.string p.root) (.slice pa p.props.length pc) (.slice fa p.aJ.length fc) (.slice aa p.ats.length ac) (.bool p.aU) (.bool p.texts)):=Q6.new _ _ _ _ _ _ _;clear h;obtain⟨z,Hz⟩:=Nm (custom x);rw[Hz.o];unfold dF;go_in;go_wp2_with fail;generalize w.alloc (.cells #[.string p.root,.slice pa p.props.length pc,.slice fa p.aJ.length fc,.slice aa p.ats.length ac,.bool p.aU,.bool p.texts] 82)=w0 at *;obtain⟨q0,q1,q2,q3,q4,q5⟩:=Q0.o.cs;refine(rE x _).mono ?_;rw[Hz.o];rintro e wq ⟨rfl,hwq⟩;rw[hwq];clear hwq;cases z
 .go_wp2_with fail;refine pmb (YL _ p.props _ x _ HA.o) fun wq hwq=>?_;rw[hwq];go_wp2_with fail;go_ret;exact⟨rfl,B0.o⟩
 .go_wp2_with fail;go_ret;exact⟨rfl,B0.o⟩
end
def lwI(c:Int):Bool:=decide (97<=c)&&decide (c<=122)
theorem ain(c:UInt8):lwI (c.toNat:Int)=jh c:=by unfold lwI jh;rw[Bool.eq_iff_iff];simp;omega
def ldI(c:Int):Bool:=lwI c||c==45
theorem alk(c:UInt8):ldI (c.toNat:Int)=(jh c||c==45):=by unfold ldI;rw[ain,show(c==45)=((c.toNat:Int)==45) from tZ c 45 oo]
theorem Nl(c:Int)(w:WD):Calls prog 171 #[.int .u8 c] w fun e w'=>e=.returned (.bool (lwI c))/\w'=w:=by
 go_in;go_wp2
 all_goals
  go_ret;exact⟨aC (by rw[Bool.eq_iff_iff];simp[lwI, *]<;>omega),rfl⟩
theorem F7(c:Int)(w:WD):Calls prog 234 #[.int .u8 c] w fun e w'=>e=.returned (.bool (ldI c))/\w'=w:=by
 cases h1:lwI c;all_goals
  go_in;go_wp2_with(go_at_call 171;refine(Nl _ _).mono ?_;rintro e w' ⟨rfl,rfl⟩);go_ret;exact⟨aC (by simp[ldI,h1]),rfl⟩
theorem acX(s:BY)(g:Nat)(f:UInt8->Bool)(w:WD)(hs:s.size<=4194304)
  (hg:∀(args:Array Av) (w:WD),(callFunc g args).run prog w=.ok (.enter g args) w)
  (hf:∀(c:UInt8) (w:WD),Calls prog g (#[.int .u8 (c.toNat:Int)] ++ #[]) w fun e w'=>e=.returned (.bool (f c))/\w'=w):
  Calls prog 170 #[.string s,.func (.func g) #[] #[]] w fun e w'=>e=.returned (.bool (allB f s))/\w'=w:=by
 have HF:=hid hf;clear hf;go_in;go_wp2_with fail;go_loopg[8] s.size (fun gg v8 wr=>∃k:Nat,k+gg=s.size/\v8=.int .i64 (k:Int)/\Aside (rJ f s k=true/\wr=w));case atStart=>exact⟨0,oo,rfl,rfl,rfl⟩
 case round=>
  obtain⟨k,hk,rfl,hA⟩:=hrel;have HA:=hid hA.o.1;obtain rfl:=hA.o.2;clear hA;by_cases hlt:k<s.size
  .have h1:(k:Int)<(s.size:Int):=oo;have hix:=gQ s k hlt;rw[Ie hlt,MJ hlt]at hix;have HC:=HF.o s[k] wr;obtain⟨z,Hz⟩:=Nm (f s[k]);rw[Hz.o]at HC;have HC':Hid (Calls prog g (#[.int .u8 (s[k].toNat:Int)] ++ #[]) wr fun e w'=>e=.returned (.bool z)/\w'=wr):=HC;clear HC;go_wp2_with fail;refine HC'.o.mono ?_;rintro e wq ⟨rfl,hwq⟩;rw[hwq];clear hwq;cases z
   .have HV:Hid (allB f s=false):=x9 f hlt Hz.o;go_wp2_with fail;go_ret;exact⟨aC HV.o.symm,rfl⟩
   .have HN:Hid (rJ f s (k+1)=true):=by show _=_;rw[vU f hlt,HA.o,Hz.o];rfl
    go_wp2_with fail;go_roundg(gk-1);case measure=>omega
    case rel=>exact⟨k+1,oo,by congr 1,HN.o,rfl⟩
  .have h1:(s.size:Int)<=(k:Int):=oo;have HV:Hid (allB f s=true):=by
    show _=_;rw[<-Eu];have:k=s.size:=oo;rw[<-this];exact HA.o
   go_wp2_with fail;go_ret;exact⟨aC HV.o.symm,rfl⟩
end
