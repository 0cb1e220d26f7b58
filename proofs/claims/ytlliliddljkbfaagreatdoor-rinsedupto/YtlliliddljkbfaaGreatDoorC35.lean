import Derived.Test.YtlliliddljkbfaaGreatDoorC34
import Derived.Deep.RegionWith
namespace Go.Proofs.YtlliliddljkbfaaGreatDoor
set_option maxHeartbeats 64000000
set_option maxRecDepth 100000
open Go.Proofs.Tryz (prog)
open Go.RowKit Sp
section
def abT(w:ByteArray)(l3:List Nd):Option Simple:=
 match l3 with
 |[v]=>(placeOf v.t).map (fun p=>.mk 58 w aA aA [] p)
 |_=>none
theorem Uj{w:ByteArray}{l:List Nd}(h:¬ ∃v,l=[v]):abT w l=none:=by
 unfold abT;split
 .exact absurd ⟨_,rfl⟩ h
 .rfl
theorem BP{f:Nat}{n:Nd}{w w':World}{nm:ByteArray}{p:Nat}(h:aK (aY f) n=some (.mk 58 nm aA aA [] p)):qm f n w w' (.returned (.tuple #[dZ 58 nm aA aA (.slice none 0 0) p,.bool true])):=by unfold qm;rw[h];exact⟨58,nm,aA,aA,_,p,rfl,bP.plain _ _ _ _ _ _ _ _⟩
theorem RP{f:Nat}{n:Nd}{w w':World}{nm:ByteArray}{p:Nat}(h:aK (aY f) n=none):qm f n w w' (.returned (.tuple #[dZ 58 nm aA aA (.slice none 0 0) p,.bool false])):=by unfold qm;rw[h];exact⟨58,nm,aA,aA,_,_,_,p,rfl⟩
def TB(w:World)(g:Nat)(t:Tok):Prop:=w.heap[g]?=some (.cells #[.int .i64 t.kind,.string t.word,.string t.unit] 68 (0,0))
section
variable {w w':World} {g:Nat} {t:Tok}
theorem TB.lt(h:TB w g t):g<w.heap.size:=(Array.getElem?_eq_some_iff.1 h).1
theorem TB.cs(h:TB w g t):w.cell? ⟨g,0,none⟩=some (.int .i64 t.kind)/\w.cell? ⟨g,1,none⟩=some (.string t.word)/\w.cell? ⟨g,2,none⟩=some (.string t.unit):=by refine⟨?_,?_,?_⟩<;>(unfold World.cell?;rw[h];rfl)
theorem TB.keep(h:TB w g t)(e':w'.heap[g]?=w.heap[g]?):TB w' g t:=by unfold TB;rw[e'];exact h
theorem TB.below(h:TB w g t)(hb:Below w.heap.size w w'):TB w' g t:=h.keep (hb.block g h.lt)
end
theorem SB.aeC{w:World}{g:Nat}{a b c d e f:Value}(h:SB w g a b c d e f)(x:Value):SB (w.setCell ⟨g,5,none⟩ x) g a b c d e x:=by have hl:=h.lt;unfold SB at h⊢;simp only[World.setCell,Array.getElem?_modify,h];simp
structure Ox(W:World)(sb tb:Nat)(nm:ByteArray)(p:Int)(t:Tok)(w:World):Prop where
 r:SB w (W.heap.size+1) (.int .u8 0) (.string ⟨#[]⟩) (.string ⟨#[]⟩) (.string ⟨#[]⟩) (.slice none 0 0) (.int .i64 0)
 s:SB w sb (.int .u8 58) (.string nm) (.string ⟨#[]⟩) (.string ⟨#[]⟩) (.slice none 0 0) (.int .i64 p)
 t:TB w tb t
 b:Below W.heap.size W w
theorem Ox.next{W:World}{sb tb:Nat}{nm:ByteArray}{p:Int}{t:Tok}{w w':World}(h:Ox W sb tb nm p t w)(hb:Below w.heap.size w w'):Ox W sb tb nm p t w':=⟨h.r.below hb,h.s.below hb,h.t.below hb,h.b.trans (hb.mono h.b.size)⟩
theorem Ox.next'{W:World}{sb tb:Nat}{nm:ByteArray}{p:Int}{t:Tok}{w w':World}(h:Ox W sb tb nm p t w)(hb:Below w.drew.heap.size w.drew w'):Ox W sb tb nm p t w':=h.next ⟨hb.os,hb.tape,hb.output,hb.size,hb.block⟩
theorem Ox.place{W:World}{sb tb:Nat}{nm:ByteArray}{p:Int}{t:Tok}{w:World}(h:Ox W sb tb nm p t w)(hs:W.heap.size+1<sb)(ht:sb≠tb)(q:Int):Ox W sb tb nm q t (w.setCell ⟨sb,5,none⟩ (.int .i64 q)):=⟨h.r.keep (Below.heap_setCell _ _ _ _ (by show W.heap.size+1≠sb;omega)),h.s.aeC _,h.t.keep (Below.heap_setCell _ _ _ _ (by show tb≠sb;exact fun e=>ht e.symm)),h.b.setCell (p:=⟨sb,5,none⟩) (by show W.heap.size<=sb;omega) _⟩
theorem Np(f:Nat)(B:Nat)(n:Nd)(kv:Value)(w:World)(hw:n.t.word.size<=4000000)(hk:(n.t.kind==14)=false)(hk2:(n.t.kind != 11)=false)(h3:small n.t.word=iR)
  (hS:Sl (fun b=>b<B) w kv n.kids) (hB:B<=w.heap.size) (hm:¬ ∃v,bare n.kids=[v]):
  Calls prog 201 #[dM n.t kv] w fun e w'=>qm f n w w' e/\Below w.heap.size w w':=by
 have HV:Hid (aK (aY f) n=abT (small n.t.word) (bare n.kids)):=by show _=_;unfold aK;simp only;rw[if_neg (by simpa using hk),if_neg (by simpa using hk2),if_neg (by rw[h3];decide),if_pos h3];rfl
 have rF:Hid (aK (aY f) n=none):=by show _=_;rw[HV.o];exact Uj hm
 have HS:Hid (Sl (fun b=>b<B) w kv n.kids):=hS;have HM:Hid (¬ ∃v,bare n.kids=[v]):=hm;clear hS hm HV;unfold dM;obtain⟨X0,R0⟩:=ps0 n kv w;obtain⟨nm,iZ⟩:∃nm,Hid (small n.t.word=nm):=⟨_,hid rfl⟩;go_in;go_wp2_with fail;refine(gW n.t.word _ oo).mono ?_;rw[iZ.o];rintro e w1 ⟨rfl,hb1⟩;obtain⟨X1,R1,S1,hs1,B1⟩:=ps1 nm X0 R0 hb1;clear hb1 X0 R0;go_upto_region 3 with fail
 generalize w1.alloc (.cells #[.int .u8 58,.string nm,.string ⟨#[]⟩,.string ⟨#[]⟩,.slice none 0 0,.int .i64 0] 194)=w2 at *;generalize w1.heap.size=sb at *;have hsb:sb<w2.heap.size:=S1.o.lt;have hlt0:¬sb=w.heap.size:=oo;have hlt1:¬sb=w.heap.size+1:=oo;obtain⟨x0,x1,x2,x3⟩:=X1.o.cs;obtain⟨r0,r1,r2,r3,r4,r5⟩:=R1.o.cs;obtain⟨s0,s1,s2,s3,s4,s5⟩:=S1.o.cs;have C9:=S1.o.fz 4;have DK:=S1.o.fz 5;have yK:=R1.o.fz 0;have yL:=R1.o.fz 1;have yM:=R1.o.fz 2;have yN:=R1.o.fz 3;have yO:=R1.o.fz 4;have yP:=R1.o.fz 5;have k1:(nm.toList==[110,111,116])=false:=by rw[iP nm _ lg rfl,<-iZ.o,h3];decide
 have k2:(nm.toList==[105,115])=false:=by rw[iP nm _ xB rfl,<-iZ.o,h3];decide
 have k3:(nm.toList==[110,116,104,45,99,104,105,108,100])=true:=by rw[iP nm _ iR rfl,<-iZ.o,h3];decide
 clear h3;go_wp2_with fail;refine(mQ B n.kids kv _ (HS.o.below B1.o hB)).mono ?_;rintro e wq ⟨v3,rfl,hS4,rfl⟩;obtain⟨a4,c4,rfl⟩:=hS4.form;have hl3:=hS4.len;have hne:(((bare n.kids).length:Int) != 1)=true:=by
  simp;intro e;apply HM.o
  match h:bare n.kids,e with
  |[v],_=>exact⟨v,rfl⟩
 clear hS4;go_wp2_with fail;refine bodyPost_ret (v:=.tuple #[dZ 58 nm aA aA (.slice none 0 0) 0,.bool false]) (by simp[results,Tryz.results201,go_sem,dZ,aA,r0,r1,r2,r3,r4,r5]) rfl ?_;exact⟨vJ rF.o,bH B1.o oo _ _ _ _ _ _⟩
end
theorem Kq(f:Nat)(B:Nat)(n v:Nd)(kv:Value)(w:World)(hw:n.t.word.size<=4000000)(hk:(n.t.kind==14)=false)(hk2:(n.t.kind != 11)=false)(h3:small n.t.word=iR)
  (hS:Sl (fun b=>b<B) w kv n.kids) (hB:B<=w.heap.size) (hm:bare n.kids=[v]) (hvk:(v.t.kind==14)=true) (hev:¬small v.t.word=kH):
  Calls prog 201 #[dM n.t kv] w fun e w'=>qm f n w w' e/\Below w.heap.size w w':=by
 have HV:Hid (aK (aY f) n=(if small v.t.word=kH then some 1 else if small v.t.word=qC then some 0 else none).map (fun p=>.mk 58 (small n.t.word) aA aA [] p)):=by show _=_;unfold aK;simp only;rw[if_neg (by simpa using hk),if_neg (by simpa using hk2),if_neg (by rw[h3];decide),if_pos h3,hm];simp only;unfold placeOf;rw[if_pos (by simpa using hvk)]
 have HS:Hid (Sl (fun b=>b<B) w kv n.kids):=hS;have HM:Hid (bare n.kids=[v]):=hm;clear hS hm;unfold dM;obtain⟨X0,R0⟩:=ps0 n kv w;obtain⟨nm,iZ⟩:∃nm,Hid (small n.t.word=nm):=⟨_,hid rfl⟩;go_in;go_wp2_with fail;refine(gW n.t.word _ oo).mono ?_;rw[iZ.o];rintro e w1 ⟨rfl,hb1⟩;obtain⟨X1,R1,S1,hs1,B1⟩:=ps1 nm X0 R0 hb1;clear hb1 X0 R0;go_upto_region 3 with fail
 generalize w1.alloc (.cells #[.int .u8 58,.string nm,.string ⟨#[]⟩,.string ⟨#[]⟩,.slice none 0 0,.int .i64 0] 194)=w2 at *;generalize w1.heap.size=sb at *;have hsb:sb<w2.heap.size:=S1.o.lt;have hlt0:¬sb=w.heap.size:=oo;have hlt1:¬sb=w.heap.size+1:=oo;obtain⟨x0,x1,x2,x3⟩:=X1.o.cs;obtain⟨r0,r1,r2,r3,r4,r5⟩:=R1.o.cs;obtain⟨s0,s1,s2,s3,s4,s5⟩:=S1.o.cs;have C9:=S1.o.fz 4;have DK:=S1.o.fz 5;have yK:=R1.o.fz 0;have yL:=R1.o.fz 1;have yM:=R1.o.fz 2;have yN:=R1.o.fz 3;have yO:=R1.o.fz 4;have yP:=R1.o.fz 5;have k1:(nm.toList==[110,111,116])=false:=by rw[iP nm _ lg rfl,<-iZ.o,h3];decide
 have k2:(nm.toList==[105,115])=false:=by rw[iP nm _ xB rfl,<-iZ.o,h3];decide
 have k3:(nm.toList==[110,116,104,45,99,104,105,108,100])=true:=by rw[iP nm _ iR rfl,<-iZ.o,h3];decide
 have HN3:Hid (nm=iR):=by show _=_;rw[<-iZ.o];exact h3
 clear h3;go_wp2_with fail;refine(mQ B n.kids kv _ (HS.o.below B1.o hB)).mono ?_;rw[HM.o];rintro e wq ⟨v3,rfl,hS4,rfl⟩;obtain⟨g4,o4,kv4,c4,rfl,rC,hc4⟩:=hS4.head;have hg4:g4<w.heap.size:=by have:g4<B:=rC.s;omega
 obtain⟨q0,q1,q2⟩:_/\_/\_:=⟨rC.c0,rC.c1,rC.c2⟩;have hvw:v.t.word.size<=4000000:=rC.ok.word;have hvn:v.t.kind=5->0<v.t.word.size:=rC.ok.num;clear hS4 rC hc4;go_upto_region 18 with fail
 have R3:Hid (SB (wq.alloc (.cells #[.int .i64 v.t.kind,.string v.t.word,.string v.t.unit] 68)) (w.heap.size+1) (.int .u8 0) (.string ⟨#[]⟩) (.string ⟨#[]⟩) (.string ⟨#[]⟩) (.slice none 0 0) (.int .i64 0)):=R1.o.alloc _;have S3:Hid (SB (wq.alloc (.cells #[.int .i64 v.t.kind,.string v.t.word,.string v.t.unit] 68)) sb (.int .u8 58) (.string nm) (.string ⟨#[]⟩) (.string ⟨#[]⟩) (.slice none 0 0) (.int .i64 0)):=S1.o.alloc _;have T3:Hid (TB (wq.alloc (.cells #[.int .i64 v.t.kind,.string v.t.word,.string v.t.unit] 68)) wq.heap.size v.t):=heap_alloc_new wq _;have B3:Hid (Below w.heap.size w (wq.alloc (.cells #[.int .i64 v.t.kind,.string v.t.word,.string v.t.unit] 68))):=B1.o.alloc oo _;clear R1 S1 X1 B1 HS x0 x1 x2 x3 r0 r1 r2 r3 r4 r5 yK yL yM yN yO yP s0 s1 s2 s3 s4 s5 C9 DK q0 q1 q2
 generalize wq.alloc (.cells #[.int .i64 v.t.kind,.string v.t.word,.string v.t.unit] 68)=w3 at *;generalize wq.heap.size=tb at *;have htb:tb<w3.heap.size:=T3.o.lt;have Uk:¬tb=sb:=oo;have abU:¬tb=w.heap.size+1:=oo;obtain⟨t0,t1,t2⟩:=T3.o.cs;obtain⟨r0,r1,r2,r3,r4,r5⟩:=R3.o.cs;obtain⟨s0,s1,s2,s3,s4,s5⟩:=S3.o.cs;have C9:=S3.o.fz 4;have DK:=S3.o.fz 5;have yK:=R3.o.fz 0;have yL:=R3.o.fz 1;have yM:=R3.o.fz 2;have yN:=R3.o.fz 3;have yO:=R3.o.fz 4;have yP:=R3.o.fz 5;obtain⟨vm,Hvm⟩:∃vm,Hid (small v.t.word=vm):=⟨_,hid rfl⟩;have rF:Hid (aK (aY f) n=(if vm=kH then some 1 else if vm=qC then some 0 else none).map (fun p=>.mk 58 nm aA aA [] p)):=by show _=_;rw[HV.o,Hvm.o,iZ.o]
 clear HV;go_wp2_with fail;refine(gW v.t.word _ oo).mono ?_;rw[Hvm.o];rintro e w4 ⟨rfl,hb4⟩;have P4:Hid (Ox w sb tb nm 0 v.t w4):=((Ox.mk R3.o S3.o T3.o B3.o).place oo (fun e=>Uk e.symm) 0).next hb4;clear hb4 R3 S3 T3 B3 r0 r1 r2 r3 r4 r5 yK yL yM yN yO yP s0 s1 s2 s3 s4 s5 C9 DK t0 t1 t2;obtain⟨r0,r1,r2,r3,r4,r5⟩:=P4.o.r.cs;obtain⟨s0,s1,s2,s3,s4,s5⟩:=P4.o.s.cs;obtain⟨t0,t1,t2⟩:=P4.o.t.cs;have C9:=P4.o.s.fz 4;have DK:=P4.o.s.fz 5;have yK:=P4.o.r.fz 0;have yL:=P4.o.r.fz 1;have yM:=P4.o.r.fz 2;have yN:=P4.o.r.fz 3;have yO:=P4.o.r.fz 4;have yP:=P4.o.r.fz 5;have ne:¬vm=kH:=by rw[<-Hvm.o];exact hev
 have he:(vm.toList==[101,118,101,110])=false:=by rw[iP vm _ kH rfl];simpa using ne
 clear hev;have UW:Hid (aK (aY f) n=(if vm=qC then some (.mk 58 nm aA aA [] 0) else none)):=by show _=_;rw[rF.o,if_neg ne];split<;>rfl
 clear rF ne;have FIN:Hid (∀w',qm f n w w' (.returned (.tuple #[dZ 58 nm aA aA (.slice none 0 0) 0,.bool (vm.toList==[111,100,100])]))):=by
  intro w';rw[iP vm _ qC rfl];by_cases h:vm=qC
  .rw[decide_eq_true h];exact BP (by rw[UW.o,if_pos h])
  .rw[decide_eq_false h];exact RP (by rw[UW.o,if_neg h])
 clear UW;go_wp2_with fail;go_region_with (go_at_call 57;refine(gW v.t.word _ oo).mono ?_;rw[Hvm.o];rintro e w5 ⟨rfl,hb5⟩;have P4:Hid (Ox w sb tb nm 0 v.t w5):=(by first|exact P4.o.next' hb5|exact P4.o.next hb5);obtain⟨r0,r1,r2,r3,r4,r5⟩:=P4.o.r.cs;obtain⟨s0,s1,s2,s3,s4,s5⟩:=P4.o.s.cs;obtain⟨t0,t1,t2⟩:=P4.o.t.cs;have C9:=P4.o.s.fz 4;have DK:=P4.o.s.fz 5;have yK:=P4.o.r.fz 0;have yL:=P4.o.r.fz 1;have yM:=P4.o.r.fz 2;have yN:=P4.o.r.fz 3;have yO:=P4.o.r.fz 4;have yP:=P4.o.r.fz 5;clear hb5)
 all_goals
  go_wp2_with fail;refine bodyPost_ret (v:=.tuple #[dZ 58 nm aA aA (.slice none 0 0) 0,.bool (vm.toList==[111,100,100])]) (by simp[results,Tryz.results201,go_sem,dZ,aA,r0,r1,r2,r3,r4,r5]) rfl ?_;exact⟨FIN.o _,bH P4.o.b oo _ _ _ _ _ _⟩
end Go.Proofs.YtlliliddljkbfaaGreatDoor
