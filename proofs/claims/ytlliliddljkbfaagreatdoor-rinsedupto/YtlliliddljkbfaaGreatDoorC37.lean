import Derived.Test.YtlliliddljkbfaaGreatDoorC21
import Derived.Test.YtlliliddljkbfaaGreatDoorC35
import Derived.Test.YtlliliddljkbfaaGreatDoorC36
namespace Go.Proofs.YtlliliddljkbfaaGreatDoor
set_option maxHeartbeats 64000000
set_option maxRecDepth 100000
open Go.Proofs.Tryz (prog)
open Go.RowKit Sp
theorem Xm{x:Nat}{c:UInt8}{r:List UInt8}(h:48<=c.toNat/\c.toNat<=57)(hx:x<=999):jR x (c::r)=jR (10*x+c.toNat-48) r:=by simp[jR,h,hx]
theorem RQ{x:Nat}{c:UInt8}{r:List UInt8}(h:¬(48<=c.toNat/\c.toNat<=57/\x<=999)):jR x (c::r)=none:=by unfold jR;rw[if_neg h]
theorem Jf{f:Nat}{n v:Nd}(hk:(n.t.kind==14)=false)(hk2:(n.t.kind != 11)=false)(h3:small n.t.word=iR)(hm:bare n.kids=[v]):aK (aY f) n=(placeOf v.t).map (fun p=>.mk 58 (small n.t.word) aA aA [] p):=by unfold aK;simp only;rw[if_neg (by simpa using hk),if_neg (by simpa using hk2),if_neg (by rw[h3];decide),if_pos h3,hm]
theorem Z7{s:ByteArray}{i:Nat}(h:i<s.size):s.data.toList.drop i=s[i]::s.data.toList.drop (i+1):=drop_cons h
theorem Nq(f:Nat)(B:Nat)(n v:Nd)(kv:Value)(w:World)(hw:n.t.word.size<=4000000)(hk:(n.t.kind==14)=false)(hk2:(n.t.kind != 11)=false)(h3:small n.t.word=iR)
  (hS:Sl (fun b=>b<B) w kv n.kids) (hB:B<=w.heap.size) (hm:bare n.kids=[v]) (hvk:(v.t.kind==14)=false) (hv5:(v.t.kind != 5)=true):
  Calls prog 201 #[dM n.t kv] w fun e w'=>qm f n w w' e/\Below w.heap.size w w':=by
 have HV:Hid (aK (aY f) n=none):=by show _=_;rw[Jf hk hk2 h3 hm];unfold placeOf;rw[if_neg (by simpa using hvk),if_neg (fun h=>by simp at hv5;exact hv5 h.1)];rfl
 have HS:Hid (Sl (fun b=>b<B) w kv n.kids):=hS;have HM:Hid (bare n.kids=[v]):=hm;clear hS hm;unfold dM;obtain⟨X0,R0⟩:=ps0 n kv w;obtain⟨nm,iZ⟩:∃nm,Hid (small n.t.word=nm):=⟨_,hid rfl⟩;go_in;go_wp2_with fail;refine(gW n.t.word _ oo).mono ?_;rw[iZ.o];rintro e w1 ⟨rfl,hb1⟩;obtain⟨X1,R1,S1,hs1,B1⟩:=ps1 nm X0 R0 hb1;clear hb1 X0 R0;go_upto_region 3 with fail
 generalize w1.alloc (.cells #[.int .u8 58,.string nm,.string ⟨#[]⟩,.string ⟨#[]⟩,.slice none 0 0,.int .i64 0] 194)=w2 at *;generalize w1.heap.size=sb at *;have hsb:sb<w2.heap.size:=S1.o.lt;have hlt0:¬sb=w.heap.size:=oo;have hlt1:¬sb=w.heap.size+1:=oo;obtain⟨x0,x1,x2,x3⟩:=X1.o.cs;obtain⟨r0,r1,r2,r3,r4,r5⟩:=R1.o.cs;obtain⟨s0,s1,s2,s3,s4,s5⟩:=S1.o.cs;have C9:=S1.o.fz 4;have DK:=S1.o.fz 5;have yK:=R1.o.fz 0;have yL:=R1.o.fz 1;have yM:=R1.o.fz 2;have yN:=R1.o.fz 3;have yO:=R1.o.fz 4;have yP:=R1.o.fz 5;have k1:(nm.toList==[110,111,116])=false:=by rw[iP nm _ lg rfl,<-iZ.o,h3];decide
 have k2:(nm.toList==[105,115])=false:=by rw[iP nm _ xB rfl,<-iZ.o,h3];decide
 have k3:(nm.toList==[110,116,104,45,99,104,105,108,100])=true:=by rw[iP nm _ iR rfl,<-iZ.o,h3];decide
 have HN3:Hid (nm=iR):=by show _=_;rw[<-iZ.o];exact h3
 clear h3;go_wp2_with fail;refine(mQ B n.kids kv _ (HS.o.below B1.o hB)).mono ?_;rw[HM.o];rintro e wq ⟨v3,rfl,hS4,rfl⟩;obtain⟨g4,o4,kv4,c4,rfl,rC,hc4⟩:=hS4.head;have hg4:g4<w.heap.size:=by have:g4<B:=rC.s;omega
 obtain⟨q0,q1,q2⟩:_/\_/\_:=⟨rC.c0,rC.c1,rC.c2⟩;have hvw:v.t.word.size<=4000000:=rC.ok.word;have hvn:v.t.kind=5->0<v.t.word.size:=rC.ok.num;clear hS4 rC hc4;go_upto_region 18 with fail
 have R3:Hid (SB (wq.alloc (.cells #[.int .i64 v.t.kind,.string v.t.word,.string v.t.unit] 68)) (w.heap.size+1) (.int .u8 0) (.string ⟨#[]⟩) (.string ⟨#[]⟩) (.string ⟨#[]⟩) (.slice none 0 0) (.int .i64 0)):=R1.o.alloc _;have S3:Hid (SB (wq.alloc (.cells #[.int .i64 v.t.kind,.string v.t.word,.string v.t.unit] 68)) sb (.int .u8 58) (.string nm) (.string ⟨#[]⟩) (.string ⟨#[]⟩) (.slice none 0 0) (.int .i64 0)):=S1.o.alloc _;have T3:Hid (TB (wq.alloc (.cells #[.int .i64 v.t.kind,.string v.t.word,.string v.t.unit] 68)) wq.heap.size v.t):=heap_alloc_new wq _;have B3:Hid (Below w.heap.size w (wq.alloc (.cells #[.int .i64 v.t.kind,.string v.t.word,.string v.t.unit] 68))):=B1.o.alloc oo _;clear R1 S1 X1 B1 HS x0 x1 x2 x3 r0 r1 r2 r3 r4 r5 yK yL yM yN yO yP s0 s1 s2 s3 s4 s5 C9 DK q0 q1 q2
 generalize wq.alloc (.cells #[.int .i64 v.t.kind,.string v.t.word,.string v.t.unit] 68)=w3 at *;generalize wq.heap.size=tb at *;have htb:tb<w3.heap.size:=T3.o.lt;have Uk:¬tb=sb:=oo;have abU:¬tb=w.heap.size+1:=oo;obtain⟨t0,t1,t2⟩:=T3.o.cs;obtain⟨r0,r1,r2,r3,r4,r5⟩:=R3.o.cs;obtain⟨s0,s1,s2,s3,s4,s5⟩:=S3.o.cs;have C9:=S3.o.fz 4;have DK:=S3.o.fz 5;have yK:=R3.o.fz 0;have yL:=R3.o.fz 1;have yM:=R3.o.fz 2;have yN:=R3.o.fz 3;have yO:=R3.o.fz 4;have yP:=R3.o.fz 5;go_wp2_with fail;refine bodyPost_ret (v:=.tuple #[dZ 58 nm aA aA (.slice none 0 0) 0,.bool false]) (by simp[results,Tryz.results201,go_sem,dZ,aA,r0,r1,r2,r3,r4,r5]) rfl ?_;exact⟨vJ HV.o,bH B3.o oo _ _ _ _ _ _⟩
theorem Nr(f:Nat)(B:Nat)(n v:Nd)(kv:Value)(w:World)(hw:n.t.word.size<=4000000)(hk:(n.t.kind==14)=false)(hk2:(n.t.kind != 11)=false)(h3:small n.t.word=iR)
  (hS:Sl (fun b=>b<B) w kv n.kids) (hB:B<=w.heap.size) (hm:bare n.kids=[v]) (hvk:(v.t.kind==14)=false) (hv5:(v.t.kind != 5)=false):
  Calls prog 201 #[dM n.t kv] w fun e w'=>qm f n w w' e/\Below w.heap.size w w':=by
 have HV:Hid (aK (aY f) n=(if aP (pk v.t.word 0)=true then(jR 0 v.t.word.data.toList).map (· + 2) else none).map (fun p=>.mk 58 (small n.t.word) aA aA [] p)):=by
  show _=_;rw[Jf hk hk2 h3 hm];unfold placeOf;rw[if_neg (by simpa using hvk)];have:v.t.kind=5:=by simpa using hv5
  simp[this]
 have H5:Hid (v.t.kind=5):=by show _=_;simpa using hv5
 have HS:Hid (Sl (fun b=>b<B) w kv n.kids):=hS;have HM:Hid (bare n.kids=[v]):=hm;clear hS hm;unfold dM;obtain⟨X0,R0⟩:=ps0 n kv w;obtain⟨nm,iZ⟩:∃nm,Hid (small n.t.word=nm):=⟨_,hid rfl⟩;go_in;go_wp2_with fail;refine(gW n.t.word _ oo).mono ?_;rw[iZ.o];rintro e w1 ⟨rfl,hb1⟩;obtain⟨X1,R1,S1,hs1,B1⟩:=ps1 nm X0 R0 hb1;clear hb1 X0 R0;go_upto_region 3 with fail
 generalize w1.alloc (.cells #[.int .u8 58,.string nm,.string ⟨#[]⟩,.string ⟨#[]⟩,.slice none 0 0,.int .i64 0] 194)=w2 at *;generalize w1.heap.size=sb at *;have hsb:sb<w2.heap.size:=S1.o.lt;have hlt0:¬sb=w.heap.size:=oo;have hlt1:¬sb=w.heap.size+1:=oo;obtain⟨x0,x1,x2,x3⟩:=X1.o.cs;obtain⟨r0,r1,r2,r3,r4,r5⟩:=R1.o.cs;obtain⟨s0,s1,s2,s3,s4,s5⟩:=S1.o.cs;have C9:=S1.o.fz 4;have DK:=S1.o.fz 5;have yK:=R1.o.fz 0;have yL:=R1.o.fz 1;have yM:=R1.o.fz 2;have yN:=R1.o.fz 3;have yO:=R1.o.fz 4;have yP:=R1.o.fz 5;have k1:(nm.toList==[110,111,116])=false:=by rw[iP nm _ lg rfl,<-iZ.o,h3];decide
 have k2:(nm.toList==[105,115])=false:=by rw[iP nm _ xB rfl,<-iZ.o,h3];decide
 have k3:(nm.toList==[110,116,104,45,99,104,105,108,100])=true:=by rw[iP nm _ iR rfl,<-iZ.o,h3];decide
 have HN3:Hid (nm=iR):=by show _=_;rw[<-iZ.o];exact h3
 clear h3;go_wp2_with fail;refine(mQ B n.kids kv _ (HS.o.below B1.o hB)).mono ?_;rw[HM.o];rintro e wq ⟨v3,rfl,hS4,rfl⟩;obtain⟨g4,o4,kv4,c4,rfl,rC,hc4⟩:=hS4.head;have hg4:g4<w.heap.size:=by have:g4<B:=rC.s;omega
 obtain⟨q0,q1,q2⟩:_/\_/\_:=⟨rC.c0,rC.c1,rC.c2⟩;have hvw:v.t.word.size<=4000000:=rC.ok.word;have hvn:v.t.kind=5->0<v.t.word.size:=rC.ok.num;clear hS4 rC hc4;go_upto_region 18 with fail
 have R3:Hid (SB (wq.alloc (.cells #[.int .i64 v.t.kind,.string v.t.word,.string v.t.unit] 68)) (w.heap.size+1) (.int .u8 0) (.string ⟨#[]⟩) (.string ⟨#[]⟩) (.string ⟨#[]⟩) (.slice none 0 0) (.int .i64 0)):=R1.o.alloc _;have S3:Hid (SB (wq.alloc (.cells #[.int .i64 v.t.kind,.string v.t.word,.string v.t.unit] 68)) sb (.int .u8 58) (.string nm) (.string ⟨#[]⟩) (.string ⟨#[]⟩) (.slice none 0 0) (.int .i64 0)):=S1.o.alloc _;have T3:Hid (TB (wq.alloc (.cells #[.int .i64 v.t.kind,.string v.t.word,.string v.t.unit] 68)) wq.heap.size v.t):=heap_alloc_new wq _;have B3:Hid (Below w.heap.size w (wq.alloc (.cells #[.int .i64 v.t.kind,.string v.t.word,.string v.t.unit] 68))):=B1.o.alloc oo _;clear R1 S1 X1 B1 HS x0 x1 x2 x3 r0 r1 r2 r3 r4 r5 yK yL yM yN yO yP s0 s1 s2 s3 s4 s5 C9 DK q0 q1 q2
 generalize wq.alloc (.cells #[.int .i64 v.t.kind,.string v.t.word,.string v.t.unit] 68)=w3 at *;generalize wq.heap.size=tb at *;have htb:tb<w3.heap.size:=T3.o.lt;have Uk:¬tb=sb:=oo;have abU:¬tb=w.heap.size+1:=oo;obtain⟨t0,t1,t2⟩:=T3.o.cs;obtain⟨r0,r1,r2,r3,r4,r5⟩:=R3.o.cs;obtain⟨s0,s1,s2,s3,s4,s5⟩:=S3.o.cs;have C9:=S3.o.fz 4;have DK:=S3.o.fz 5;have yK:=R3.o.fz 0;have yL:=R3.o.fz 1;have yM:=R3.o.fz 2;have yN:=R3.o.fz 3;have yO:=R3.o.fz 4;have yP:=R3.o.fz 5;have rF:Hid (aK (aY f) n=(if aP (pk v.t.word 0)=true then(jR 0 v.t.word.data.toList).map (· + 2) else none).map (fun p=>.mk 58 nm aA aA [] p)):=by show _=_;rw[HV.o,iZ.o]
 have hpos:=hvn H5.o;clear HV hvn;have hix:∀w:World,(Instr.index 9 (.string v.t.word) (.int .i64 0)).run prog w=.ok (.int .u8 (pk v.t.word 0)) w:=fun w=>aV v.t.word 0 hpos w;cases hd0:aP (pk v.t.word 0)
 .have UW:Hid (aK (aY f) n=none):=by show _=_;rw[rF.o,hd0];rfl
  go_wp2_with fail;refine pmb (cO _ _) fun wz hwz=>?_;rw[hwz];clear hwz wz;go_wp2_with fail;refine bodyPost_ret (v:=.tuple #[dZ 58 nm aA aA (.slice none 0 0) 0,.bool false]) (by simp[results,Tryz.results201,go_sem,dZ,aA,r0,r1,r2,r3,r4,r5]) rfl ?_;exact⟨vJ UW.o,bH B3.o oo _ _ _ _ _ _⟩
 .have UW:Hid (aK (aY f) n=((jR 0 v.t.word.data.toList).map (· + 2)).map (fun p=>.mk 58 nm aA aA [] p)):=by show _=_;rw[rF.o,hd0,if_pos rfl]
  clear rF;go_wp2_with fail;refine pmb (cO _ _) fun wz hwz=>?_;rw[hwz];clear hwz wz hix;go_wp2_with fail;go_loopg[10,11] v.t.word.size (fun g v10 v11 wr=>∃(i x:Nat),i+g=v.t.word.size/\x<=9999/\v10=.int .i64 (x:Int)/\v11=.int .i64 (i:Int)/\Aside (jR 0 v.t.word.data.toList=jR x (v.t.word.data.toList.drop i)/\wr=w3));case atStart=>exact⟨0,0,oo,oo,rfl,rfl,rfl,rfl⟩
  case round=>
   obtain⟨i,x,hi,hx,rfl,rfl,hA⟩:=hrel;have HA:Hid (jR 0 v.t.word.data.toList=jR x (v.t.word.data.toList.drop i)):=hA.o.1;obtain rfl:=hA.o.2;clear hA;by_cases hlt:i<v.t.word.size
   .have h1:(i:Int)<(v.t.word.size:Int):=oo;have hix:=aV v.t.word i hlt;have hpb:=Zm hlt;have HD:Hid (v.t.word.data.toList.drop i=v.t.word[i]::v.t.word.data.toList.drop (i+1)):=Z7 hlt;have hlo:=QL v.t.word i;have hhi:=D7 v.t.word i;have hwp:=Rf v.t.word i;cases hd:aP (pk v.t.word i)
    .have HV4:Hid (aK (aY f) n=none):=by
      show _=_;rw[UW.o,HA.o,HD.o,RQ (fun h=>by unfold aP at hd;simp at hd;rw[hpb]at hd;omega)];rfl
     clear hpb;go_wp2_with fail;refine pmb (cO _ _) fun wz hwz=>?_;rw[hwz];clear hwz wz;go_wp2_with fail;refine bodyPost_ret (v:=.tuple #[dZ 58 nm aA aA (.slice none 0 0) 0,.bool false]) (by simp[results,Tryz.results201,go_sem,dZ,aA,r0,r1,r2,r3,r4,r5]) rfl ?_;exact⟨vJ HV4.o,bH B3.o oo _ _ _ _ _ _⟩
    .have adB:48<=v.t.word[i].toNat/\v.t.word[i].toNat<=57:=by unfold aP at hd;simp at hd;rw[hpb]at hd;omega
     by_cases hx9:x<=999
     .have h9:(x:Int)<=999:=oo;have HN:Hid (jR 0 v.t.word.data.toList=jR (10*x+v.t.word[i].toNat-48) (v.t.word.data.toList.drop (i+1))):=by show _=_;rw[HA.o,HD.o,Xm adB hx9]
      obtain⟨c,Hc⟩:∃c:Nat,Hid (v.t.word[i].toNat=c):=⟨_,hid rfl⟩;rw[Hc.o]at adB HN hpb;rw[hpb]at hix hd hwp;clear hpb hlo hhi;go_wp2_with fail;refine(cO _ _).mono ?_;rw[hd];rintro e wz ⟨rfl,hwz⟩;rw[hwz];clear hwz wz;go_wp2_with fail;go_roundg(gk-1);case measure=>omega
      case rel=>exact⟨i+1,10*x+c-48,oo,oo,by congr 1;omega,by congr 1,HN.o,rfl⟩
     .have h9:(999:Int)<(x:Int):=oo;have HV4:Hid (aK (aY f) n=none):=by
       show _=_;rw[UW.o,HA.o,HD.o,RQ (fun h=>hx9 h.2.2)];rfl
      clear hpb;go_wp2_with fail;refine(cO _ _).mono ?_;rw[hd];rintro e wz ⟨rfl,hwz⟩;rw[hwz];clear hwz wz;go_wp2_with fail;refine bodyPost_ret (v:=.tuple #[dZ 58 nm aA aA (.slice none 0 0) 0,.bool false]) (by simp[results,Tryz.results201,go_sem,dZ,aA,r0,r1,r2,r3,r4,r5]) rfl ?_;exact⟨vJ HV4.o,bH B3.o oo _ _ _ _ _ _⟩
   .have h1:(v.t.word.size:Int)<=(i:Int):=oo;have HN:Hid (jR 0 v.t.word.data.toList=if x<=999 then some x else none):=by
     show _=_;rw[HA.o,List.drop_of_length_le (by simp;omega)];rfl
    by_cases hx9:x<=999
    .have h9:(x:Int)<=999:=oo;go_wp2_with fail;refine bodyPost_ret (v:=.tuple #[dZ 58 nm aA aA (.slice none 0 0) (x+2),.bool true]) (by simp[results,Tryz.results201,go_sem,dZ,aA,r0,r1,r2,r3,r4,r5]) rfl ?_;exact⟨BP (by rw[UW.o,HN.o,if_pos hx9];rfl),bH (B3.o.setCell (p:=⟨sb,5,none⟩) (by show w.heap.size<=sb;omega) _) oo _ _ _ _ _ _⟩
    .have h9:(999:Int)<(x:Int):=oo;go_wp2_with fail;refine bodyPost_ret (v:=.tuple #[dZ 58 nm aA aA (.slice none 0 0) (x+2),.bool false]) (by simp[results,Tryz.results201,go_sem,dZ,aA,r0,r1,r2,r3,r4,r5];omega) rfl ?_;exact⟨RP (by rw[UW.o,HN.o,if_neg hx9];rfl),bH (B3.o.setCell (p:=⟨sb,5,none⟩) (by show w.heap.size<=sb;omega) _) oo _ _ _ _ _ _⟩
def FK:Nat->Prop
 |0=>True
 |f+1=>JW f
theorem Xn(f:Nat)(hR:FK f)(B:Nat)(n:Nd)(kv:Value)(w:World)(hok:cZ n.t)(hS:Sl (fun b=>b<B) w kv n.kids)(hB:B<=w.heap.size)(hd:jS n<=f):
  Calls prog 201 #[dM n.t kv] w fun e w'=>qm f n w w' e/\Below w.heap.size w w':=by
 have hw:=hok.word;cases hk:(n.t.kind==14)
 .cases hk2:(n.t.kind != 11)
  .have e11:n.t.kind=11:=by simpa using hk2
   have hdk:jS n=depth n.kids+1:=mY (by unfold closing;rw[if_pos e11];decide);by_cases h12:small n.t.word=lg\/small n.t.word=xB
   .cases f with
    |zero=>omega
    |succ f=>exact Nl f hR B n kv w hw hk hk2 h12 hS hB oo
   .by_cases h3:small n.t.word=iR
    .by_cases hm:∃v,bare n.kids=[v]
     .obtain⟨v,hm⟩:=hm;cases hvk:(v.t.kind==14)
      .cases hv5:(v.t.kind != 5)
       .exact Nr f B n v kv w hw hk hk2 h3 hS hB hm hvk hv5
       .exact Nq f B n v kv w hw hk hk2 h3 hS hB hm hvk hv5
      .by_cases hev:small v.t.word=kH
       .exact Kr f B n v kv w hw hk hk2 h3 hS hB hm hvk hev
       .exact Kq f B n v kv w hw hk hk2 h3 hS hB hm hvk hev
     .exact Np f B n kv w hw hk hk2 h3 hS hB hm
    .exact FI f n kv w hw hk hk2 (fun h=>h12 (.inl h)) (fun h=>h12 (.inr h)) h3
  .exact Nk f n kv w hw hk hk2
 .exact Ko f n kv w hw hk
section
section
variable {rec:List Nd->Option fC} {acc:List Simple} {n:Nd} {r:List Nd}
theorem vK{w:ByteArray}(h:dY n w=true):n.t.kind=15/\n.t.word=w:=by simpa[dY,ay]using h
theorem FM:bD rec acc []=some (acc,[]):=by simp[bD]
theorem Ns(h:n.t.kind=4):bD rec acc (n::r)=bD rec (acc++[Simple.of 35 n.t.word]) r:=by
 cases r with
 |nil=>simp[bD,h]
 |cons m r=>
  conv=>lhs;unfold bD
  rw[if_pos h]
def dotW(rec:List Nd->Option fC)(acc:List Simple)(r:List Nd):Option (List Simple×List Nd):=
 match r with
 |[]=>none
 |m::r'=>if m.t.kind=14 then bD rec (acc++[Simple.of 46 m.t.word]) r' else none
theorem Qg(h:dY n (b1 46)=true):bD rec acc (n::r)=dotW rec acc r:=by
 have hk:=(vK h).1;cases r with
 |nil=>simp[bD,h,hk,dotW]
 |cons m r=>
  conv=>lhs;unfold bD
  rw[if_neg oo,if_pos h];rfl
def Kt(rec:List Nd->Option fC)(acc:List Simple)(s:Option Simple)(r:List Nd):Option (List Simple×List Nd):=
 match s with
 |none=>none
 |some s=>bD rec (acc++[s]) r
theorem Nu(h:dY n (b1 91)=true):bD rec acc (n::r)=Kt rec acc (dh (bare n.kids)) r:=by
 obtain⟨hk,hw⟩:=vK h;have h2:¬dY n (b1 46)=true:=by simp[dY,ay,hw,b1]
 cases r with
 |nil=>unfold bD Kt;rw[if_neg oo,if_neg h2,if_pos h];cases dh (bare n.kids)<;>simp[bD]
 |cons m r=>
  conv=>lhs;unfold bD
  rw[if_neg oo,if_neg h2,if_pos h];unfold Kt;cases dh (bare n.kids)<;>rfl
def abV(rec:List Nd->Option fC)(acc:List Simple)(r:List Nd):Option (List Simple×List Nd):=
 match r with
 |[]=>none
 |m::r'=>Kt rec acc (aK rec m) r'
theorem Ku(h:dY n (b1 58)=true):bD rec acc (n::r)=abV rec acc r:=by
 obtain⟨hk,hw⟩:=vK h;have h2:¬dY n (b1 46)=true:=by simp[dY,ay,hw,b1]
 have h3:¬dY n (b1 91)=true:=by simp[dY,ay,hw,b1]
 cases r with
 |nil=>simp[bD,h,h2,h3,hk,abV]
 |cons m r=>
  conv=>lhs;unfold bD
  rw[if_neg oo,if_neg h2,if_neg h3,if_pos h];show _=Kt rec acc (aK rec m) r;unfold Kt;cases aK rec m<;>rfl
theorem Nv(h4:¬n.t.kind=4)(h1:dY n (b1 46)=false)(h2:dY n (b1 91)=false)(h3:dY n (b1 58)=false):bD rec acc (n::r)=some (acc,n::r):=by
 cases r with
 |nil=>simp[bD,h4,h1,h2,h3]
 |cons m r=>simp[bD,h4,h1,h2,h3]
end
theorem Xo:∃i,prog.info? 194=some i/\i.zero=some (.agg #[.int .u8 0,.string ⟨#[]⟩,.string ⟨#[]⟩,.string ⟨#[]⟩,.slice none 0 0,.int .i64 0])/\i.size=6/\i.bytes=88:=info_parts (by kernel_rfl)
theorem MG.wG{f base:Nat}{w w':World}{v v2:Value}{l:List Simple}{cs c:List Value}{x:Simple}(h:jv (bP f) (oO base w v) w l cs)(hx:bP f (oO base w v) w x c)(hown:w'.ownsRow base 194 6 v2 (l.length+1) (cs++c))(hg:w.grownBy w' v.ownBlock)(hat:v2.ownBlock=v.ownBlock\/v2.ownBlock=some w.heap.size):MG (bP f) 6 194 base w' v2 (l++[x]):=MG.snoc (bP.fair f) h hx hown hg hat
theorem aeD(w:World)(a b c d e f:Value)(t:TypeId):∀j u,[a,b,c,d,e,f][j]?=some u->(w.alloc (.cells #[a,b,c,d,e,f] t)).cell? ((⟨w.heap.size,0,none⟩:Addr).add j)=some u:=by intro j u hu;rw[Addr.add_lit,Nat.zero_add,World.cell?_alloc_mark,<-hu];simp
theorem Jg(w:World)(a b c d e f:Value)(t:TypeId)(n:Nat)(hn:n=w.heap.size):∀j u,[a,b,c,d,e,f][j]?=some u->(w.alloc (.cells #[a,b,c,d,e,f] t)).cell? ((⟨n,0,none⟩:Addr).add j)=some u:=by subst hn;exact aeD w a b c d e f t
theorem bP.lv{f:Nat}{S:Nat->Prop}{w:World}{s:Simple}{k:Nat}{nm h v:ByteArray}{lv:Value}{p:Nat}(hc:bP f S w s (Ih k nm h v lv p)):∃a m c,lv=.slice a m c:=by
 obtain⟨k',nm',h',v',l,p'⟩:=s;cases f with
 |zero=>obtain⟨_,a,c,e⟩:=hc;simp[Ih]at e;exact⟨a,0,c,e.2.2.2.2.1⟩
 |succ f=>obtain⟨lv',e,hs⟩:=hc;simp[Ih]at e;obtain⟨a,c,e2⟩:=hs.form;exact⟨a,_,c,by rw[e.2.2.2.2.1,e2]⟩
def Au(f:Nat)(l:List Nd)(i:Nat)(w w':World)(e:Ending):Prop:=
 match aJ (aY f) (l.drop i)with
 |none=>∃k:Nat,e=.returned (.tuple #[.slice none 0 0,.int .i64 (k:Int),.bool false])
 |some (all,r)=>∃(sv:Value) (k:Nat),e=.returned (.tuple #[sv,.int .i64 (k:Int),.bool true])/\SG (bP f) 6 (vV w.heap.size w') w' sv all/\k<=l.length/\i<=k/\l.drop k=r
structure abW(f:Nat)(l:List Nd)(i:Nat)(w:World)(u:Value)(k:Nat)(acc:List Simple)(wr:World):Prop where
 m:MG (bP f) 6 194 w.heap.size wr u acc
 b:Below w.heap.size w wr
 e:aJ (aY f) (l.drop i)=bD (aY f) acc (l.drop k)
end
end Go.Proofs.YtlliliddljkbfaaGreatDoor
