import Derived.Test.YtlliliddljkbfaaGreatDoorC5
import Derived.Test.YtlliliddljkbfaaGreatDoorC6
import Derived.Test.YtlliliddljkbfaaGreatDoorC9
import Derived.Test.YtlliliddljkbfaaGreatDoorC10
namespace Go.Proofs.YtlliliddljkbfaaGreatDoor
set_option maxHeartbeats 64000000
set_option maxRecDepth 100000
open Go.Proofs.Tryz (prog)
open Go.RowKit Sp
def Y5(c:Int):Bool:=(decide (97<=c)&&decide (c<=122))||(decide (65<=c)&&decide (c<=90))
def Y6(c:Int):Bool:=decide (48<=c)&&decide (c<=57)
def wtI(c:Int):Bool:=decide (32<=c)&&decide (c<=126)&&!(c==34||c==92||c==60||c==62)
def wkI(c:Int):Bool:=Y5 c||Y6 c||c==46||c==47||c==58||c==45
theorem qW(c:UInt8)(n:Nat)(hn:n<256):(c==UInt8.ofNat n)=((c.toNat:Int)==(n:Int)):=by
 rw[Bool.eq_iff_iff];simp;constructor
 .rintro rfl;simp;omega
 .intro h;apply UInt8.toNat_inj.1
  have:c.toNat=n:=oo;rw[this];simp;omega
theorem aaC(c:UInt8):Y5 (c.toNat:Int)=ou c:=by unfold Y5 ou;rw[Bool.eq_iff_iff];simp;omega
theorem aaD(c:UInt8):Y6 (c.toNat:Int)=oz c:=by unfold Y6 oz;rw[Bool.eq_iff_iff];simp;omega
theorem acO(c:UInt8):wtI (c.toNat:Int)=eF c:=by unfold wtI eF;rw[show(c==34)=((c.toNat:Int)==34) from qW c 34 oo,show(c==92)=((c.toNat:Int)==92) from qW c 92 oo,show(c==60)=((c.toNat:Int)==60) from qW c 60 oo,show(c==62)=((c.toNat:Int)==62) from qW c 62 oo];rw[Bool.eq_iff_iff];simp;omega
theorem acP(c:UInt8):wkI (c.toNat:Int)=dQ c:=by unfold wkI dQ;rw[aaC,aaD,show(c==46)=((c.toNat:Int)==46) from qW c 46 oo,show(c==47)=((c.toNat:Int)==47) from qW c 47 oo,show(c==58)=((c.toNat:Int)==58) from qW c 58 oo,show(c==45)=((c.toNat:Int)==45) from qW c 45 oo]
theorem ng(c:Int)(w:World):Calls prog 284 #[.int .u8 c] w fun e w'=>e=.returned (.bool (Y5 c))/\w'=w:=by
 go_in;go_wp2
 all_goals
  go_ret;exact⟨aI (by rw[Bool.eq_iff_iff];simp[Y5, *]<;>omega),rfl⟩
theorem oL(c:Int)(w:World):Calls prog 285 #[.int .u8 c] w fun e w'=>e=.returned (.bool (Y6 c))/\w'=w:=by
 go_in;go_wp2
 all_goals
  go_ret;exact⟨aI (by rw[Bool.eq_iff_iff];simp[Y6, *]<;>omega),rfl⟩
theorem LC(c:Int)(w:World):Calls prog 294 #[.int .u8 c] w fun e w'=>e=.returned (.bool (wtI c))/\w'=w:=by
 go_in;go_wp2
 all_goals
  go_ret;exact⟨aI (by rw[Bool.eq_iff_iff];simp[wtI, *]<;>omega),rfl⟩
theorem LD(c:Int)(w:World):Calls prog 297 #[.int .u8 c] w fun e w'=>e=.returned (.bool (wkI c))/\w'=w:=by
 cases h1:Y5 c<;>cases h2:Y6 c
 all_goals
  go_in;go_wp2_with(first|(go_at_call 284;refine(ng _ _).mono ?_;rintro e w' ⟨rfl,rfl⟩)|(go_at_call 285;refine(oL _ _).mono ?_;rintro e w' ⟨rfl,rfl⟩));all_goals
   go_ret;exact⟨aI (by rw[Bool.eq_iff_iff];simp[wkI, *]),rfl⟩
def hexT:ByteArray:=⟨#[48,49,50,51,52,53,54,55,56,57,97,98,99,100,101,102]⟩
theorem Y8:∀n:Nat,n<16->hexT.extract n (n+1)=b1 (hexD n):=by decide
theorem wu(n:Nat)(h:n<16)(w:World):(Instr.slice 9 (.string ⟨#[48,49,50,51,52,53,54,55,56,57,97,98,99,100,101,102]⟩) (some (.int .u8 (n:Int))) (some (.int .u8 ((n:Int)+1))) none).run prog w=.ok (.string (b1 (hexD n))) w:=by rw[run_slice_string_if w 9 _ .u8 .u8 _ _ Tryz.underlying9,if_pos ⟨oo,by show(n:Int)+1<=((16:Nat):Int);omega⟩,if_pos ⟨oo,oo⟩];have:=Y8 n h;unfold hexT at this;rw[show((n:Int)+1).toNat=n+1 by omega,show((n:Int)).toNat=n by omega,this]
theorem row4(w:World)(a b c d:ByteArray):(w.alloc (.cells #[.string a,.string b,.string c,.string d] 9)).ownsRow w.heap.size 9 1 (.slice (some ⟨w.heap.size,0,none⟩) 4 4) 4 ([a,b,c,d].map Value.string):=⟨rfl,.inr ⟨w.heap.size,4,_,rfl,Nat.le_refl _,heap_alloc_new w _,Nat.le_refl _,by unfold maxLen;omega,rfl,rfl⟩⟩
theorem row3(w:World)(a b c:ByteArray):(w.alloc (.cells #[.string a,.string b,.string c] 9)).ownsRow w.heap.size 9 1 (.slice (some ⟨w.heap.size,0,none⟩) 3 3) 3 ([a,b,c].map Value.string):=⟨rfl,.inr ⟨w.heap.size,3,_,rfl,Nat.le_refl _,heap_alloc_new w _,Nat.le_refl _,by unfold maxLen;omega,rfl,rfl⟩⟩
theorem ad8(w:World)(a b c d e:ByteArray):(w.alloc (.cells #[.string a,.string b,.string c,.string d,.string e] 9)).ownsRow w.heap.size 9 1 (.slice (some ⟨w.heap.size,0,none⟩) 5 5) 5 ([a,b,c,d,e].map Value.string):=⟨rfl,.inr ⟨w.heap.size,5,_,rfl,Nat.le_refl _,heap_alloc_new w _,Nat.le_refl _,by unfold maxLen;omega,rfl,rfl⟩⟩
theorem zM(n:Nat)(h:n<16):IntKind.u8.wrap ((n:Int)+1)=(n:Int)+1:=by rw[IntKind.wrap_u8];omega
theorem Tj(c:UInt8)(w:World):Calls prog 283 #[.int .u8 (c.toNat:Int)] w fun e w'=>e=.returned (.string (ji c))/\Below w.heap.size w w':=by
 have hc:c.toNat<256:=c.toNat_lt;obtain⟨h,Hh⟩:∃h,Hid (c.toNat/16=h):=⟨_,hid rfl⟩;obtain⟨l,Hl⟩:∃l,Hid (c.toNat%16=l):=⟨_,hid rfl⟩;have hh:h<16:=by have:=Hh.o;omega
 have hl:l<16:=by have:=Hl.o;omega
 have HE:Hid (ji c=aB [⟨#[92]⟩,b1 (hexD h),b1 (hexD l),⟨#[32]⟩]):=by show _=_;unfold ji;rw[Hh.o,Hl.o];rfl
 have e1:IntKind.u8.wrap ((c.toNat:Int)/16)=(h:Int):=by have:=Hh.o;rw[IntKind.wrap_u8];omega
 have e2:IntKind.u8.wrap ((c.toNat:Int)%16)=(l:Int):=by have:=Hl.o;rw[IntKind.wrap_u8];omega
 have e3:((c.toNat:Int)/16)=(h:Int):=by have:=Hh.o;omega
 have e4:((c.toNat:Int)%16)=(l:Int):=by have:=Hl.o;omega
 have e5:=zM h hh;have e6:=zM l hl;have s1:=wu h hh;have s2:=wu l hl;go_in;go_wp2_with fail;refine wp_region_any (by kernel_rfl) ?_;change wpAny _ _ _ _ _ _ _ (World.drew _);refine Dq 0 ?_;refine Dq 1 ?_;refine Dq 2 ?_;refine Dq 3 ?_;refine Dq 4 ?_;refine Dq 5 ?_;refine Dq 6 ?_;refine Dq 7 ?_;refine brA 8 fun K hK=>?_;go_simp;refine hK _ _ ?_;clear hK K;refine brA 9 fun K hK=>?_;go_simp;have B1:Hid (Below w.heap.size w ((w.alloc (.cells #[.string ⟨#[92]⟩,.string (b1 (hexD h)),.string (b1 (hexD l)),.string ⟨#[32]⟩] 9)).drew)):=((Below.refl _ _).alloc nl _).drew
 have R1:Hid (World.ownsRow ((w.alloc (.cells #[.string ⟨#[92]⟩,.string (b1 (hexD h)),.string (b1 (hexD l)),.string ⟨#[32]⟩] 9)).drew) w.heap.size 9 1 (.slice (some ⟨w.heap.size,0,none⟩) 4 4) 4 ([⟨#[92]⟩,b1 (hexD h),b1 (hexD l),⟨#[32]⟩].map Value.string)):=row4 w ⟨#[92]⟩ (b1 (hexD h)) (b1 (hexD l)) ⟨#[32]⟩;generalize(w.alloc (.cells #[.string ⟨#[92]⟩,.string (b1 (hexD h)),.string (b1 (hexD l)),.string ⟨#[32]⟩] 9)).drew=w2 at *;have hs2:=B1.o.size;refine(eG [⟨#[92]⟩,b1 (hexD h),b1 (hexD l),⟨#[32]⟩] w.heap.size _ _ R1.o (by simp) (by show 1+(1+(1+(1+0)))<=_;omega)).mono ?_;rw[<-HE.o];rintro e w5 ⟨rfl,hb5⟩;have B5:Hid (Below w.heap.size w w5):=B1.o.trans (hb5.mono hs2);clear hb5;refine hK _ _ ?_;clear hK K;refine brA 10 fun K hK=>?_;go_simp;refine hK _ _ ?_;clear hK K;refine wpAny_done (by kernel_rfl) ?_ _;go_wp2_with fail;go_ret
 exact⟨rfl,B5.o⟩
theorem fA{w w':World}{base:Nat}{e:TypeId}{size:Nat}{v:Value}{n:Nat}{xs:List Value}{b:Nat}(h:w.ownsRow base e size v n xs)(ht:Turn b w w')(hb:b<base):w'.ownsRow base e size v n xs:=by
 refine⟨h.1,?_⟩;rcases h.2 with hn|⟨g,cap,cur,rfl,hbg,hgg,rest⟩
 .exact .inl hn
 .refine .inr ⟨g,cap,cur,rfl,hbg,?_,rest⟩;rw[ht.block g (Array.getElem?_eq_some_iff.1 hgg).1 oo];exact hgg
theorem bW{w:World}{base:Nat}{e:TypeId}{size:Nat}{v:Value}{n:Nat}{xs:List Value}(h:w.ownsRow base e size v n xs)(k:Nat):(w.drewN k).ownsRow base e size v n xs:=h
theorem aG.grown{b k:Nat}{s:ByteArray}{w w1 w2:World}{row:Option Nat}(h:aG b s k w w1)(hg:w1.grownBy w2 row)(hb:b<w.heap.size)(hrow:∀r,row=some r->w.heap.size<=r):aG b s k w w2:=by
 have hsz:=h.2.size;have hp:=h.1.pos;refine⟨⟨?_,?_,h.1.pos,h.1.len,h.1.le⟩,?_⟩
 .rw[hg.block b oo (fun e=>by have:=hrow b e.symm;omega)];exact h.1.blk
 .obtain⟨m,hm⟩:=h.1.glob;exact⟨m,by rw[<-hm];exact World.cell?_of_block (w:=w1) (hg.block 0 oo (fun e=>by have:=hrow 0 e.symm;omega))⟩
 .exact⟨hg.os.trans h.2.os,hg.tape.trans h.2.tape,hg.output.trans h.2.output,Nat.le_trans hsz hg.size,fun j hj hjb=>(hg.block j oo (fun e=>by have:=hrow j e.symm;omega)).trans (h.2.block j hj hjb)⟩
theorem aG.below{b k:Nat}{s:ByteArray}{w w1 w2:World}(h:aG b s k w w1)(hb:Below w1.heap.size w1 w2):aG b s k w w2:=by
 have hl:=h.1.lt;have hp:=h.1.pos;refine⟨⟨?_,?_,h.1.pos,h.1.len,h.1.le⟩,h.2.trans (Turn.of_below hb)⟩
 .rw[hb.block b hl];exact h.1.blk
 .obtain⟨m,hm⟩:=h.1.glob;exact⟨m,by rw[<-hm];exact hb.cell (p:=⟨0,0,none⟩) (by show 0<w1.heap.size;omega)⟩
theorem bf(x:ByteArray):∀u∈[Value.string x],u.oneCell'=true:=by simp[Value.oneCell']
theorem yc(s:ByteArray)(b i:Nat)(w:World)(h:Sc w b s i):
  Calls prog 166 #[.pointer (some ⟨b,0,none⟩)] w fun e w'=>e=.returned (.string (Sp.name s i).1)/\aG b s (Sp.name s i).2 w w':=by
 have W:Hid (aG b s i w w):=aG.refl h;clear h;have hbw:b<w.heap.size:=W.o.1.lt;have hs:s.size<=600:=W.o.1.len;obtain⟨iS,uh⟩:=jV;have HI:Hid (prog.info? 9=some iS/\iS.zero=some (.string ⟨#[]⟩)/\iS.size=1/\iS.bytes=16):=uh;clear uh;go_in;go_wp2_with fail;refine jK (fun Q' hF=>?_);go_wp2_with fail;go_loopg[3] s.size (fun g v3 wr=>∃(v:Value) (k:Nat) (ps:List ByteArray),v=v3/\s.size<=k+g/\ps.length<=k/\total ps<=k/\Aside (jI s g k (aB ps)=Sp.name s i/\wr.ownsRow w.heap.size 9 1 v ps.length (ps.map Value.string)/\aG b s k w wr));case atStart=>exact⟨_,i,[],rfl,oo,by simp,by simp[total],rfl,World.ownsRow_nil _ _ _ _,W.o⟩
 case round=>
  obtain⟨v3,k,ps,rfl,hk,hpl,hpt,hA⟩:=hrel;have H1:Hid (jI s gk k (aB ps)=Sp.name s i):=hA.o.1;have HO:Hid (wr.ownsRow w.heap.size 9 1 v3 ps.length (ps.map Value.string)):=hA.o.2.1;have H2:Hid (aG b s k w wr):=hA.o.2.2;clear hA;have hke:=H2.o.1.le;cases hn:iD (pk s k)
  .cases he:jq s k
   .have HV:Hid (Sp.name s i=(aB ps,k)):=by
     show _=_;rw[<-H1.o];cases gk with
     |zero=>rfl
     |succ f=>unfold jI;rw[if_neg (by simp[hn]),if_neg (by simp[he])]
    go_wp2_with fail;refine dK (ak s b (k) _ (k) _ (H2.o.1) ⟨oo,oo,oo⟩) fun nq=>?_;go_wp2_with fail;refine aN (nH _ _) ?_;go_wp2_with fail;refine dK (fJ s b (k) _ (k) _ (H2.o.1.drewN _) ⟨oo,oo,oo⟩) fun nq=>?_;go_wp2_with fail;go_step3
    refine hF.go 0 _ _ _ rfl ?_;clear hF;go_wp2_with fail;refine pmb (eG ps w.heap.size v3 _ (bW HO.o _) oo oo) fun w1 hb1=>?_;have W1:Hid (aG b s k w w1):=(H2.o.drewN _).below hb1;clear hb1;go_wp2_with fail;try rw[Exit.noGoto_ret]
    go_ret;rw[HV.o];exact⟨rfl,W1.o⟩
   .have hlt:k<s.size:=Jq he;have hle:=og hlt;have hgt:=nG s k;obtain⟨f,rfl⟩:∃f,gk=f+1:=⟨gk-1,oo⟩;have HV:Hid (jI s f (esc s k).2 (aB (ps++[(esc s k).1]))=Sp.name s i):=by
     show _=_;rw[<-H1.o,bU];conv=>rhs;unfold jI
     rw[if_neg (by simp[hn]),if_pos he]
    have hsz:Hid ((esc s k).1.size=1):=kZ;go_wp2_with fail;refine dK (ak s b (k) _ (k) _ (H2.o.1) ⟨oo,oo,oo⟩) fun nq=>?_;go_wp2_with fail;refine aN (nH _ _) ?_;go_wp2_with fail;refine dK (fJ s b (k) _ (k) _ (H2.o.1.drewN _) ⟨oo,oo,oo⟩) fun nq=>?_;go_wp2_with fail;refine pmb (zJ s b k _ (H2.o.1.drewN _) hlt) fun w1 aj=>?_;have W1:Hid (aG b s (esc s k).2 w w1):=(H2.o.drewN _).trans aj;have qK:Hid (w1.ownsRow w.heap.size 9 1 v3 ps.length (ps.map Value.string)):=fA (bW HO.o _) aj.2 hbw;clear aj;have hw1:=W1.o.2.size
    go_wp2_with(at_builtin;refine wpList_append_own _ rfl _ _ 22 rfl w.heap.size 9 iS (.string ⟨#[]⟩) 1 16 Tryz.underlying22 HI.o.1 HI.o.2.1 HI.o.2.2.1 HI.o.2.2.2 rfl oo v3 ps.length (ps.map Value.string) rfl (qK.o.alloc _) ⟨w1.heap.size,0,none⟩ 1 1 [.string (esc s k).1] rfl rfl (cell_one_new _ _ _) (bf _) ?_ ?_ ?_ ?_)
    .unfold maxLen;omega
    .omega
    .simp;omega
    intro v4 w2 hown2 jC _;have W2:Hid (aG b s (esc s k).2 w w2):=(W1.o.alloc _).grown jC hbw (fun r hr=>(qK.o.lt r hr).1);have Bh:Hid (w2.ownsRow w.heap.size 9 1 v4 (ps.length+1) (ps.map Value.string++[.string (esc s k).1])):=hown2;clear hown2 jC;go_wp2_with fail;go_roundg f;case measure=>omega
    case rel=>
     refine⟨v4,(esc s k).2,ps++[(esc s k).1],rfl,oo,by simp;omega,?_,HV.o,?_,W2.o⟩
     .have:=hsz.o;simp[dN,total,this];omega
     .simpa using Bh.o
  .have hlt:k<s.size:=dX (vU hn);obtain⟨f,rfl⟩:∃f,gk=f+1:=⟨gk-1,oo⟩;have HV:Hid (jI s f (k+1) (aB (ps++[one s k]))=Sp.name s i):=by
    show _=_;rw[<-H1.o,bU];conv=>rhs;unfold jI
    rw[if_pos hn]
   have hsz:Hid ((one s k).size=1):=iE hlt;go_wp2_with fail;refine dK (ak s b (k) _ (k) _ (H2.o.1) ⟨oo,oo,oo⟩) fun nq=>?_;go_wp2_with fail;refine aN (nH _ _) ?_;go_wp2_with fail;refine pmb (x9 s b k _ (H2.o.1.drewN _) hlt) fun w1 aj=>?_;have W1:Hid (aG b s (k+1) w w1):=(H2.o.drewN _).trans aj;have qK:Hid (w1.ownsRow w.heap.size 9 1 v3 ps.length (ps.map Value.string)):=fA (bW HO.o _) aj.2 hbw;clear aj;have hw1:=W1.o.2.size;go_wp2_with(at_builtin;refine wpList_append_own _ rfl _ _ 22 rfl w.heap.size 9 iS (.string ⟨#[]⟩) 1 16 Tryz.underlying22 HI.o.1 HI.o.2.1 HI.o.2.2.1 HI.o.2.2.2 rfl oo v3 ps.length (ps.map Value.string) rfl (qK.o.alloc _) ⟨w1.heap.size,0,none⟩ 1 1 [.string (one s k)] rfl rfl (cell_one_new _ _ _) (bf _) ?_ ?_ ?_ ?_)
   .unfold maxLen;omega
   .omega
   .simp;omega
   intro v4 w2 hown2 jC _;have W2:Hid (aG b s (k+1) w w2):=(W1.o.alloc _).grown jC hbw (fun r hr=>(qK.o.lt r hr).1);have Bh:Hid (w2.ownsRow w.heap.size 9 1 v4 (ps.length+1) (ps.map Value.string++[.string (one s k)])):=hown2;clear hown2 jC;go_wp2_with fail;go_roundg f;case measure=>omega
   case rel=>
    refine⟨v4,k+1,ps++[one s k],rfl,oo,by simp;omega,?_,HV.o,?_,W2.o⟩
    .have:=hsz.o;simp[dN,total,this];omega
    .simpa using Bh.o
def bt(s:ByteArray)(k:Nat):UInt8:=if h:k<s.size then s[k] else 0
theorem xG{s:ByteArray}{k:Nat}(h:k<s.size):bt s k=s[k]:=by unfold bt;rw[dif_pos h]
theorem qg{s:ByteArray}{k:Nat}(h:k<s.size):pk s k=((bt s k).toNat:Int):=by rw[xG h];unfold pk;rw[dif_pos h]
def kN(ok:Nat->Bool)(s:ByteArray):Nat->List ByteArray
 |0=>[]
 |k+1=>kN ok s k++[if ok k=true then b1 (bt s k) else ji (bt s k)]
theorem Y9(ok:Nat->Bool)(s:ByteArray)(k:Nat):(kN ok s k).length=k:=by
 induction k with
 |zero=>rfl
 |succ k ih=>simp[kN,ih]
theorem pG(ok:Nat->Bool)(s:ByteArray)(k:Nat):total (kN ok s k)<=4*k:=by
 induction k with
 |zero=>simp[kN,total]
 |succ k ih=>
  unfold kN;rw[dN];have:(if ok k=true then b1 (bt s k) else ji (bt s k)).size<=4:=by
   split
   .show 1<=4;omega
   .show 4<=4;omega
  simp only[total];omega
theorem jL(a:ByteArray):a++aA=a:=by
 apply ByteArray.ext
 rw[ByteArray.data_append];simp[aA]
theorem qX(ok:Nat->Bool)(s:ByteArray)(k:Nat):kN ok s (k+1)=kN ok s k++[if ok k=true then b1 (bt s k) else ji (bt s k)]:=rfl
theorem VT(ok:Nat->UInt8->Bool)(s:ByteArray):∀(n k:Nat),k+n=s.size->aB (kN (fun i=>ok i (bt s i)) s k)++qR ok k (s.data.toList.drop k)=aB (kN (fun i=>ok i (bt s i)) s s.size):=by
 intro n;induction n with
 |zero=>intro k h;have:k=s.size:=oo;subst this;rw[List.drop_of_length_le (by rw[Array.length_toList];exact Nat.le_refl _)];show aB _++aA=_;exact jL _
 |succ n ih=>
  intro k h;have hk:k<s.data.toList.length:=by simp only[Array.length_toList];show k<s.size;omega
  rw[List.drop_eq_getElem_cons hk];have hb:s.data.toList[k]=bt s k:=by rw[xG (show k<s.size by omega)];rfl
  rw[hb];unfold qR;have:=ih (k+1) oo;rw[qX,bU,ByteArray.append_assoc]at this;exact this
theorem qh(ok:Nat->UInt8->Bool)(s:ByteArray):qR ok 0 s.data.toList=aB (kN (fun i=>ok i (bt s i)) s s.size):=by have:=VT ok s s.size 0 oo;simpa[kN,aB]using this
theorem JH{s:ByteArray}{k:Nat}(h:k<s.size):one s k=b1 (bt s k):=by
 rw[xG h];unfold one b1;apply ByteArray.ext
 rw[ByteArray.data_extract];apply Array.ext
 .simp;omega
 .intro i h1 h2;simp at h2;subst h2;simp;rfl
theorem sS(s:ByteArray)(g:Nat)(cs:Array Value)(ok:Nat->Bool)(w:World)(hs:s.size<=4000000)
  (hg:∀(args:Array Value) (w:World),(callFunc g args).run prog w=.ok (.enter g args) w)
  (hf:∀i,i<s.size->∀w',Below w.heap.size w w'->Calls prog g (#[.int .i64 (i:Int)]++cs) w' fun ex w''=>ex=.returned (.bool (ok i))/\Below w'.heap.size w' w''):
  Calls prog 241 #[.string s,.func (.func g) #[] cs] w fun e w'=>e=.returned (.string (aB (kN ok s s.size)))/\Below w.heap.size w w':=by
 have HF:Hid (∀i,i<s.size->∀w',Below w.heap.size w w'->Calls prog g (#[.int .i64 (i:Int)]++cs) w' fun ex w''=>ex=.returned (.bool (ok i))/\Below w'.heap.size w' w''):=hf;clear hf;obtain⟨iS,uh⟩:=jV;have HI:Hid (prog.info? 9=some iS/\iS.zero=some (.string ⟨#[]⟩)/\iS.size=1/\iS.bytes=16):=uh;clear uh;go_in;go_wp2_with fail;go_loopg[5,9] s.size (fun gg v5 v wr=>∃(u:Value) (k:Nat),u=v5/\k+gg=s.size/\v=.int .i64 (k:Int)/\Aside (wr.ownsRow w.heap.size 9 1 u k ((kN ok s k).map Value.string)/\Below w.heap.size w wr));case atStart=>exact⟨_,0,rfl,oo,rfl,World.ownsRow_nil _ _ _ _,Below.refl _ _⟩
 case round=>
  obtain⟨u,k,rfl,hk,rfl,hA⟩:=hrel;have O1:Hid (wr.ownsRow w.heap.size 9 1 u k ((kN ok s k).map Value.string)):=hA.o.1;have B1:Hid (Below w.heap.size w wr):=hA.o.2;clear hA;have hsz:=B1.o.size;by_cases hlt:k<s.size
  .have h1:(k:Int)<(s.size:Int):=oo;have hc:=HF.o k hlt wr B1.o;have HC:Hid (Calls prog g (#[.int .i64 (k:Int)]++cs) wr fun ex w''=>ex=.returned (.bool (ok k))/\Below wr.heap.size wr w''):=hc;clear hc;have hw1:IntKind.i64.wrap ((k:Int)+1)=(k:Int)+1:=by rw[IntKind.wrap_i64];omega
   have hsl:=oV s k hlt;rw[JH hlt]at hsl;have hix:=aV s k hlt;rw[qg hlt]at hix;go_wp2_with fail;refine HC.o.mono ?_;obtain⟨b,Hb⟩:∃b,Hid (ok k=b):=⟨_,hid rfl⟩;rw[Hb.o];rintro e w1 ⟨rfl,hb1⟩;have B2:Hid (Below w.heap.size w w1):=B1.o.trans (hb1.mono hsz);have O2:Hid (w1.ownsRow w.heap.size 9 1 u k ((kN ok s k).map Value.string)):=aX O1.o fun r hr=>hb1.block r (O1.o.lt r hr).2;have hsz2:=B2.o.size;clear hb1;cases b;focus
    go_wp2_with fail;refine pmb (Tj (bt s k) _) fun w2 hb2=>?_;have B3:Hid (Below w.heap.size w w2):=B2.o.trans (hb2.mono hsz2);have O3:Hid (w2.ownsRow w.heap.size 9 1 u k ((kN ok s k).map Value.string)):=aX O2.o fun r hr=>hb2.block r (O2.o.lt r hr).2;have hsz3:=B3.o.size;clear hb2;have HP:Hid (kN ok s (k+1)=kN ok s k++[ji (bt s k)]):=by show _=_;rw[qX,Hb.o];rfl
    go_wp2_with(at_builtin;go_must(refine wpList_append_own _ rfl _ _ 22 rfl w.heap.size 9 iS (.string ⟨#[]⟩) 1 16 Tryz.underlying22 HI.o.1 HI.o.2.1 HI.o.2.2.1 HI.o.2.2.2 rfl oo u k ((kN ok s k).map Value.string) rfl (O3.o.alloc _) ⟨w2.heap.size,0,none⟩ 1 1 [.string (ji (bt s k))] rfl rfl (cell_one_new _ _ _) (bf _) (by unfold maxLen;omega) oo (by simp;omega) ?_));intro v4 w4 hown4 bG _;have O4:Hid (w4.ownsRow w.heap.size 9 1 v4 (k+1) ((kN ok s (k+1)).map Value.string)):=by show World.ownsRow _ _ _ _ _ _ _;rw[HP.o,List.map_append];exact hown4
    have B4:Hid (Below w.heap.size w w4):=(B3.o.alloc hsz3 _).grown bG (by simp;omega) (fun rr hr=>(O3.o.lt rr hr).1)
   rotate_left;focus
    have HP:Hid (kN ok s (k+1)=kN ok s k++[b1 (bt s k)]):=by show _=_;rw[qX,Hb.o];rfl
    go_wp2_with(at_builtin;go_must(refine wpList_append_own _ rfl _ _ 22 rfl w.heap.size 9 iS (.string ⟨#[]⟩) 1 16 Tryz.underlying22 HI.o.1 HI.o.2.1 HI.o.2.2.1 HI.o.2.2.2 rfl oo u k ((kN ok s k).map Value.string) rfl (O2.o.alloc _) ⟨w1.heap.size,0,none⟩ 1 1 [.string (b1 (bt s k))] rfl rfl (cell_one_new _ _ _) (bf _) (by unfold maxLen;omega) oo (by simp;omega) ?_));intro v4 w4 hown4 bG _;have O4:Hid (w4.ownsRow w.heap.size 9 1 v4 (k+1) ((kN ok s (k+1)).map Value.string)):=by show World.ownsRow _ _ _ _ _ _ _;rw[HP.o,List.map_append];exact hown4
    have B4:Hid (Below w.heap.size w w4):=(B2.o.alloc hsz2 _).grown bG (by simp;omega) (fun rr hr=>(O2.o.lt rr hr).1)
   rotate_left;all_goals
    clear hown4 bG;go_wp2_with fail;go_roundg(gk-1);case measure=>omega
    case rel=>exact⟨v4,k+1,rfl,oo,by congr 1,O4.o,B4.o⟩
  .have h1:(s.size:Int)<=(k:Int):=oo;have hke:k=s.size:=oo;subst hke;have hpt:=pG ok s s.size;have hpl:=Y9 ok s s.size;have O5:Hid (wr.ownsRow w.heap.size 9 1 u (kN ok s s.size).length ((kN ok s s.size).map Value.string)):=by show World.ownsRow _ _ _ _ _ _ _;rw[hpl];exact O1.o
   go_wp2_with fail;refine pmb (eG (kN ok s s.size) w.heap.size u _ O5.o oo oo) fun w5 hb5=>?_;have B5:Hid (Below w.heap.size w w5):=B1.o.trans (hb5.mono hsz);clear hb5;go_wp2_with fail;go_ret;exact⟨rfl,B5.o⟩
def nY(w:World)(b:Nat)(v:Value)(T:TypeId):Prop:=w.heap[b]?=some (.cells #[v] T (0,0))
theorem nY.c{w:World}{b:Nat}{v:Value}{T:TypeId}(h:nY w b v T):w.cell? ⟨b,0,none⟩=some v:=by unfold World.cell?;rw[show w.heap[b]?=_ from h];rfl
theorem nY.lt{w:World}{b:Nat}{v:Value}{T:TypeId}(h:nY w b v T):b<w.heap.size:=(Array.getElem?_eq_some_iff.1 h).1
theorem nY.below{w w':World}{b:Nat}{v:Value}{T:TypeId}{g:Nat}(h:nY w b v T)(hb:Below g w w')(hg:b<g):nY w' b v T:=by unfold nY;rw[hb.block _ hg];exact h
theorem nY.new(w:World)(v:Value)(T:TypeId):nY (w.alloc (.cells #[v] T)) w.heap.size v T:=heap_alloc_new w _
theorem nY.alloc{w:World}{b:Nat}{v:Value}{T:TypeId}(h:nY w b v T)(o:Obj):nY (w.alloc o) b v T:=by unfold nY;rw[Below.heap_alloc _ _ _ h.lt];exact h
theorem JI:∀(fn:Fn) (first cap:Array Value) (w:World),(Instr.makeFunc fn first cap).run prog w=.ok (.func fn first cap) w:=fun _ _ _ _=>rfl
def VU(c:Int)(i:Nat)(p0:Int)(n:Nat):Bool:=if (Y5 c||c==95)=true then true else if (c==45)=true then decide (1<n) else if Y6 c=true then(decide (1<i)||(i==1&&!(p0==45))) else false
theorem aa4{s:ByteArray}{i:Nat}(h:i<s.size):VU (pk s i) i (pk s 0) s.size=bn s i (bt s i):=by
 rw[qg h];unfold VU bn;rw[aaC,aaD,<-show(bt s i==95)=(((bt s i).toNat:Int)==95) from qW _ 95 oo,<-show(bt s i==45)=(((bt s i).toNat:Int)==45) from qW _ 45 oo];generalize bt s i=c at *;by_cases h1:c=45
 .subst h1;have e1:ou 45=false:=by decide
  have e2:oz 45=false:=by decide
  rw[e1,e2];simp;rw[Bool.eq_iff_iff];simp;omega
 .have h1':(c==45)=false:=by simpa using h1
  rw[h1'];cases hd:oz c
  .cases hl:ou c<;>cases h5:(c==95)<;>simp[h1]
  .have hl:ou c=false:=by
    unfold oz at hd;unfold ou;rw[Bool.eq_false_iff];simp at *;omega
   have h5:(c==95)=false:=by unfold oz at hd;rw[beq_eq_false_iff_ne];rintro rfl;simp at hd
   rw[hl,h5];simp;generalize pk s 0=q;rw[Bool.eq_iff_iff];simp;omega
theorem Cj(s:ByteArray)(i:Nat)(w:World)(hi:i<s.size)(hs:s.size<=4000000):
  Calls prog 243 #[.string s,.int .i64 (i:Int)] w fun e w'=>e=.returned (.bool (bn s i (bt s i)))/\w'=w:=by
 rw[<-aa4 hi];have hix:=aV s i hi;have hix0:=aV s 0 oo;have h0:(i:Int)<(s.size:Int):=oo;have h00:(0:Int)<(s.size:Int):=oo;obtain⟨c,Hc⟩:∃c,Hid (pk s i=c):=⟨_,hid rfl⟩;obtain⟨q,Hq⟩:∃q,Hid (pk s 0=q):=⟨_,hid rfl⟩;rw[Hc.o]at hix⊢;rw[Hq.o]at hix0⊢;have E0:∀h:0<s.size,((s[0]'h).toNat:Int)=q:=fun h=>by rw[<-Hq.o,qg h,xG h]
 have HE0:Hid (∀h:0<s.size,((s[0]'h).toNat:Int)=q):=E0;clear Hc Hq E0;have HD:Hid (VU c i q s.size=if (Y5 c||c==95)=true then true else if (c==45)=true then decide (1<s.size) else if Y6 c=true then(decide (1<i)||(i==1&&!(q==45))) else false):=rfl;cases h1:Y5 c
 .cases h2:(c==95)
  .cases h3:(c==45)
   .cases h4:Y6 c
    .have HV:Hid (VU c i q s.size=false):=by show _=_;rw[HD.o,h1,h2,h3,h4];rfl
     go_in;go_wp2_with(first|(go_at_call 284;refine(ng _ _).mono ?_;rintro e w' ⟨rfl,rfl⟩)|(go_at_call 285;refine(oL _ _).mono ?_;rintro e w' ⟨rfl,rfl⟩));go_ret;exact⟨aI HV.o.symm,rfl⟩
    .have HV:Hid (VU c i q s.size=(decide (1<i)||(i==1&&!(q==45)))):=by show _=_;rw[HD.o,h1,h2,h3,h4];rfl
     by_cases h5:1<i
     .have h5':(1:Int)<(i:Int):=oo;have HW:Hid (VU c i q s.size=true):=by show _=_;rw[HV.o,decide_eq_true h5];rfl
      go_in;go_wp2_with(first|(go_at_call 284;refine(ng _ _).mono ?_;rintro e w' ⟨rfl,rfl⟩)|(go_at_call 285;refine(oL _ _).mono ?_;rintro e w' ⟨rfl,rfl⟩));go_ret;exact⟨aI HW.o.symm,rfl⟩
     .have h5':(i:Int)<=1:=oo;by_cases h6:i=1
      .have h6':((i:Int)==1)=true:=by simp;omega
       have HW:Hid (VU c i q s.size = !(q==45)):=by show _=_;rw[HV.o,decide_eq_false h5,h6];rfl
       clear h6 h5;go_in;go_wp2_with(first|(go_at_call 284;refine(ng _ _).mono ?_;rintro e w' ⟨rfl,rfl⟩)|(go_at_call 285;refine(oL _ _).mono ?_;rintro e w' ⟨rfl,rfl⟩));go_ret;exact⟨aI (by rw[HW.o,decide_eq_false oo,HE0.o oo];rfl),rfl⟩
      .have h6':((i:Int)==1)=false:=by simp;omega
       have HW:Hid (VU c i q s.size=false):=by show _=_;rw[HV.o,decide_eq_false h5,show(i==1)=false by simpa using h6];rfl
       go_in;go_wp2_with(first|(go_at_call 284;refine(ng _ _).mono ?_;rintro e w' ⟨rfl,rfl⟩)|(go_at_call 285;refine(oL _ _).mono ?_;rintro e w' ⟨rfl,rfl⟩));go_ret;exact⟨aI (by rw[HW.o,decide_eq_false oo]),rfl⟩
   .have HV:Hid (VU c i q s.size=decide ((1:Int)<(s.size:Int))):=by show _=_;rw[HD.o,h1,h2,h3];simp;omega
    go_in;go_wp2_with(first|(go_at_call 284;refine(ng _ _).mono ?_;rintro e w' ⟨rfl,rfl⟩)|(go_at_call 285;refine(oL _ _).mono ?_;rintro e w' ⟨rfl,rfl⟩));go_ret;exact⟨aI HV.o.symm,rfl⟩
  .have HV:Hid (VU c i q s.size=true):=by show _=_;rw[HD.o,h1,h2];rfl
   go_in;go_wp2_with(first|(go_at_call 284;refine(ng _ _).mono ?_;rintro e w' ⟨rfl,rfl⟩)|(go_at_call 285;refine(oL _ _).mono ?_;rintro e w' ⟨rfl,rfl⟩));go_ret;exact⟨aI HV.o.symm,rfl⟩
 .have HV:Hid (VU c i q s.size=true):=by show _=_;rw[HD.o,h1];rfl
  go_in;go_wp2_with(first|(go_at_call 284;refine(ng _ _).mono ?_;rintro e w' ⟨rfl,rfl⟩)|(go_at_call 285;refine(oL _ _).mono ?_;rintro e w' ⟨rfl,rfl⟩));go_ret;exact⟨aI HV.o.symm,rfl⟩
theorem Za(s:ByteArray)(i b:Nat)(w:World)(hi:i<s.size)(hs:s.size<=4000000)(hb:nY w b (.string s) 9):
  Calls prog 242 #[.int .i64 (i:Int),.pointer (some ⟨b,0,none⟩)] w fun e w'=>e=.returned (.bool (bn s i (bt s i)))/\Below w.heap.size w w':=by
 have c0:=hb.c;go_in;go_wp2_with fail;refine pmb (Cj s i _ hi hs) fun wq hwq=>?_;rw[hwq];go_wp2_with fail;go_ret;exact⟨rfl,Below.refl _ _⟩
theorem Zb(s:ByteArray)(i b:Nat)(w:World)(hi:i<s.size)(hb:nY w b (.string s) 9):
  Calls prog 293 #[.int .i64 (i:Int),.pointer (some ⟨b,0,none⟩)] w fun e w'=>e=.returned (.bool (eF (bt s i)))/\Below w.heap.size w w':=by
 have c0:=hb.c;have hix:=aV s i hi;rw[qg hi]at hix;have h0:(i:Int)<(s.size:Int):=oo;rw[<-acO];go_in;go_wp2_with fail;refine pmb (LC _ _) fun wq hwq=>?_;rw[hwq];go_wp2_with fail;go_ret;exact⟨rfl,Below.refl _ _⟩
theorem Zc(s:ByteArray)(i b:Nat)(w:World)(hi:i<s.size)(hb:nY w b (.string s) 9):
  Calls prog 296 #[.int .i64 (i:Int),.pointer (some ⟨b,0,none⟩)] w fun e w'=>e=.returned (.bool (dQ (bt s i)))/\Below w.heap.size w w':=by
 have c0:=hb.c;have hix:=aV s i hi;rw[qg hi]at hix;have h0:(i:Int)<(s.size:Int):=oo;rw[<-acP];go_in;go_wp2_with fail;refine pmb (LD _ _) fun wq hwq=>?_;rw[hwq];go_wp2_with fail;go_ret;exact⟨rfl,Below.refl _ _⟩
theorem oC(s:ByteArray)(w:World)(hs:s.size<=4000000):Calls prog 176 #[.string s] w fun e w'=>e=.returned (.string (bC s))/\Below w.heap.size w w':=by
 have hmf:=JI;have V1:Hid (nY (w.alloc (.cells #[.string s] 9)) w.heap.size (.string s) 9):=nY.new _ _ _;have B1:Hid (Below w.heap.size w (w.alloc (.cells #[.string s] 9))):=(Below.refl _ _).alloc nl _;have c0:=V1.o.c;have HV:Hid (bC s=aB (kN (fun i=>bn s i (bt s i)) s s.size)):=qh _ s;go_in;go_wp2_with fail;generalize w.alloc (.cells #[.string s] 9)=w2 at *;refine(sS s _ _ (fun i=>bn s i (bt s i)) w2 hs (fun _ _=>rfl) ?_).mono ?_
 .intro i hi w' hb';exact Za s i _ w' hi hs (V1.o.below hb' V1.o.lt)
 .rintro e wq ⟨rfl,hwq⟩;have B3:Hid (Below w.heap.size w wq):=B1.o.trans (hwq.mono B1.o.size);clear hwq;go_wp2_with fail;go_ret;exact⟨by rw[HV.o];rfl,B3.o⟩
theorem VW(s:ByteArray)(w:World)(hs:s.size<=4000000):Calls prog 267 #[.string s] w fun e w'=>e=.returned (.string (oK s))/\Below w.heap.size w w':=by
 have hmf:=JI;have V1:Hid (nY (w.alloc (.cells #[.string s] 9)) w.heap.size (.string s) 9):=nY.new _ _ _;have B1:Hid (Below w.heap.size w (w.alloc (.cells #[.string s] 9))):=(Below.refl _ _).alloc nl _;have c0:=V1.o.c;obtain⟨m,Hm⟩:∃m,Hid (aB (kN (fun i=>eF (bt s i)) s s.size)=m):=⟨_,hid rfl⟩;have HV:Hid (oK s=aB [⟨#[34]⟩,m,⟨#[34]⟩]):=by show _=_;unfold oK;rw[qh,Hm.o];simp[aB,aaV,b1]
 have hms:m.size<=16000000:=by rw[<-Hm.o,kE];have:=pG (fun i=>eF (bt s i)) s s.size;omega
 go_in;go_wp2_with fail;generalize w.alloc (.cells #[.string s] 9)=w2 at *;refine(sS s _ _ (fun i=>eF (bt s i)) w2 hs (fun _ _=>rfl) ?_).mono ?_
 .intro i hi w' hb';exact Zb s i _ w' hi (V1.o.below hb' V1.o.lt)
 .rw[Hm.o];rintro e wq ⟨rfl,hwq⟩;have B3:Hid (Below w.heap.size w wq):=B1.o.trans (hwq.mono B1.o.size);have hs3:=B3.o.size;clear hwq c0;go_wp2_with fail;refine pmb (eG [⟨#[34]⟩,m,⟨#[34]⟩] wq.heap.size _ _ (row3 wq ⟨#[34]⟩ m ⟨#[34]⟩) (by simp) (by show 1+(m.size+(1+0))<=_;omega)) fun w5 hb5=>?_;have B5:Hid (Below w.heap.size w w5):=(B3.o.alloc hs3 _).trans (hb5.mono (by simp;omega));clear hb5;go_wp2_with fail;go_ret;exact⟨by rw[HV.o];rfl,B5.o⟩
end Go.Proofs.YtlliliddljkbfaaGreatDoor
