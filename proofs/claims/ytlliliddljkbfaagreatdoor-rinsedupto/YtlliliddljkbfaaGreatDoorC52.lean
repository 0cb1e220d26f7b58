import Derived.Test.YtlliliddljkbfaaGreatDoorC7
import Derived.Test.YtlliliddljkbfaaGreatDoorC25
import Derived.Test.YtlliliddljkbfaaGreatDoorC32
import Derived.Test.YtlliliddljkbfaaGreatDoorC33
import Derived.Test.YtlliliddljkbfaaGreatDoorC51
import Derived.WalkSmall
import Derived.Test.YtlliliddljkbfaaGreatDoorRows
import Derived.ProofKit
import Derived.OpenShut
import Derived.SliceStrings
import Derived.Deep.Slices
import Derived.ChangeArms
namespace Go.Proofs.YtlliliddljkbfaaGreatDoor
set_option maxHeartbeats 64000000
set_option maxRecDepth 100000
open Go.Proofs.Tryz (prog)
open Go.RowKit Sp
section
section
variable {w:World} {b:Nat} {x0 x1 x2 x3 x4 x5:Value}
theorem Qa.fz(h:Qa w b x0 x1 x2 x3 x4 x5)(o:Nat):w.frozen? ⟨b,o,none⟩=false:=by have h':w.heap[b]?=_:=h;unfold World.frozen?;rw[h'];simp
theorem Qa.set1(h:Qa w b x0 x1 x2 x3 x4 x5)(x:Value):Qa (w.setCell ⟨b,1,none⟩ x) b x0 x x2 x3 x4 x5:=by have h':w.heap[b]?=_:=h;show _=_;simp only[World.setCell,Array.getElem?_modify,h'];simp
theorem Qa.set2(h:Qa w b x0 x1 x2 x3 x4 x5)(x:Value):Qa (w.setCell ⟨b,2,none⟩ x) b x0 x1 x x3 x4 x5:=by have h':w.heap[b]?=_:=h;show _=_;simp only[World.setCell,Array.getElem?_modify,h'];simp
theorem Qa.jr(h:Qa w b x0 x1 x2 x3 x4 x5)(x:Value):Qa (w.setCell ⟨b,3,none⟩ x) b x0 x1 x2 x x4 x5:=by have h':w.heap[b]?=_:=h;show _=_;simp only[World.setCell,Array.getElem?_modify,h'];simp
theorem Qa.keep{w':World}(h:Qa w b x0 x1 x2 x3 x4 x5)(e:w'.heap[b]?=w.heap[b]?):Qa w' b x0 x1 x2 x3 x4 x5:=by show _=_;rw[e];exact h
end
theorem Oe(B:Nat)(s:ByteArray)(p:aS)(pv fv av:Value)(w:World)(hP:iO B w p pv fv av)(hI:eX w)(hds:ig)(hl:Lit w)(hr:p.root.size<=4194304)(hs:s.size<4611686018427387904):
  Calls prog 5 #[.string s,dD p pv fv av] w fun e w'=>e=.returned (.bool true)/\Below w.heap.size w w':=by
 have hB:=hP.lt;obtain⟨pa,pc,rfl⟩:=hP.props.form;obtain⟨fa,fc,rfl⟩:=hP.au.form;obtain⟨aa,ac,rfl⟩:=hP.ats.form;have NQ:Hid (eX w):=hI;have Si:Hid ig:=hds;have HL:Hid (Lit w):=hl;have DY:Hid (iO B w p (.slice pa p.props.length pc) (.slice fa p.au.length fc) (.slice aa p.ats.length ac)):=hP;have B1:Hid (Below w.heap.size w ((w.alloc (.cells #[.string p.root,.slice pa p.props.length pc,.slice fa p.au.length fc,.slice aa p.ats.length ac,.bool p.aO,.bool p.texts] 26)).alloc (.cells #[.string p.root,.slice pa p.props.length pc,.slice fa p.au.length fc,.slice aa p.ats.length ac,.bool p.aO,.bool p.texts] 26))):=fH _ _ _
 have P1:Hid (Qa ((w.alloc (.cells #[.string p.root,.slice pa p.props.length pc,.slice fa p.au.length fc,.slice aa p.ats.length ac,.bool p.aO,.bool p.texts] 26)).alloc (.cells #[.string p.root,.slice pa p.props.length pc,.slice fa p.au.length fc,.slice aa p.ats.length ac,.bool p.aO,.bool p.texts] 26)) w.heap.size (.string p.root) (.slice pa p.props.length pc) (.slice fa p.au.length fc) (.slice aa p.ats.length ac) (.bool p.aO) (.bool p.texts)):=(Qa.new w _ _ _ _ _ _).keep (Below.heap_alloc _ _ _ (Qa.new w _ _ _ _ _ _).lt)
 have Q1:Hid (Qa ((w.alloc (.cells #[.string p.root,.slice pa p.props.length pc,.slice fa p.au.length fc,.slice aa p.ats.length ac,.bool p.aO,.bool p.texts] 26)).alloc (.cells #[.string p.root,.slice pa p.props.length pc,.slice fa p.au.length fc,.slice aa p.ats.length ac,.bool p.aO,.bool p.texts] 26)) (w.heap.size+1) (.string p.root) (.slice pa p.props.length pc) (.slice fa p.au.length fc) (.slice aa p.ats.length ac) (.bool p.aO) (.bool p.texts)):=by have:=Qa.new (w.alloc (.cells #[.string p.root,.slice pa p.props.length pc,.slice fa p.au.length fc,.slice aa p.ats.length ac,.bool p.aO,.bool p.texts] 26)) (.string p.root) (.slice pa p.props.length pc) (.slice fa p.au.length fc) (.slice aa p.ats.length ac) (.bool p.aO) (.bool p.texts);rw[show(w.alloc (.cells #[.string p.root,.slice pa p.props.length pc,.slice fa p.au.length fc,.slice aa p.ats.length ac,.bool p.aO,.bool p.texts] 26)).heap.size=w.heap.size+1 by simp]at this;exact this
 clear hP hI hds hl;unfold dD;go_in;go_upto_region 2 with fail
 generalize(w.alloc (.cells #[.string p.root,.slice pa p.props.length pc,.slice fa p.au.length fc,.slice aa p.ats.length ac,.bool p.aO,.bool p.texts] 26)).alloc (.cells #[.string p.root,.slice pa p.props.length pc,.slice fa p.au.length fc,.slice aa p.ats.length ac,.bool p.aO,.bool p.texts] 26)=w1 at *;obtain⟨pb,U0⟩:∃pb,Hid (w.heap.size=pb):=⟨_,hid rfl⟩;rw[U0.o]at B1 P1 Q1 hB⊢;obtain⟨qb,Hqb⟩:∃qb,Hid (pb+1=qb):=⟨_,hid rfl⟩;rw[Hqb.o]at Q1⊢;have hqb:=Hqb.o;have hq1:=Q1.o.lt;obtain⟨base,Yh⟩:∃b,Hid (w1.heap.size=b):=⟨_,hid rfl⟩;have hq0:qb<base:=by rw[<-Yh.o];exact hq1
 obtain⟨q0,q1,q2,q3,q4,q5⟩:=P1.o.cs;go_wp2_with fail;refine(PE B p.props pa pc w1 (DY.o.below B1.o hB).props).mono ?_;rintro e w2 ⟨u1,rfl,hu,hb⟩;obtain⟨x1,y1,rfl⟩:∃x y,u1=Value.slice x p.props.length y:=(lC.sg hu DY.o.props).form;have L1:Hid (lC base pa w2 (.slice x1 p.props.length y1) p.props):=lC.mono hu (by rw[<-Yh.o];exact Nat.le_refl _);have B2:Hid (Below pb w w2):=B1.o.trans (hb.mono (by have:=B1.o.size;have:=U0.o;omega));have P2:Hid (Qa w2 pb (.string p.root) (.slice pa p.props.length pc) (.slice fa p.au.length fc) (.slice aa p.ats.length ac) (.bool p.aO) (.bool p.texts)):=P1.o.below hb P1.o.lt;have Q2:Hid (Qa w2 qb (.string p.root) (.slice pa p.props.length pc) (.slice fa p.au.length fc) (.slice aa p.ats.length ac) (.bool p.aO) (.bool p.texts)):=Q1.o.below hb Q1.o.lt
 have hz:base<=w2.heap.size:=Nat.le_trans (by rw[<-Yh.o];exact Nat.le_refl _) hb.size;clear hu hb q0 q1 q2 q3 q4 q5;have B3:Hid (Below pb w (w2.setCell ⟨qb,1,none⟩ (.slice x1 p.props.length y1))):=B2.o.setCell (by show pb<=qb;omega) _;have P3:Hid (Qa (w2.setCell ⟨qb,1,none⟩ (.slice x1 p.props.length y1)) pb (.string p.root) (.slice pa p.props.length pc) (.slice fa p.au.length fc) (.slice aa p.ats.length ac) (.bool p.aO) (.bool p.texts)):=P2.o.keep (Below.heap_setCell _ _ _ _ (by show pb≠qb;omega));have Q3:Hid (Qa (w2.setCell ⟨qb,1,none⟩ (.slice x1 p.props.length y1)) qb (.string p.root) (.slice x1 p.props.length y1) (.slice fa p.au.length fc) (.slice aa p.ats.length ac) (.bool p.aO) (.bool p.texts)):=Q2.o.set1 _;have hz1:base<=(w2.setCell ⟨qb,1,none⟩ (.slice x1 p.props.length y1)).heap.size:=by simp[World.setCell];exact hz
 have L1b:Hid (lC base pa (w2.setCell ⟨qb,1,none⟩ (.slice x1 p.props.length y1)) (.slice x1 p.props.length y1) p.props):=L1.o.set hq0 _;obtain⟨r0,r1,r2,r3,r4,r5⟩:=Q2.o.cs;have z1:=Q2.o.fz 1;go_upto_region 3 with fail
 clear hz r0 r1 r2 r3 r4 r5 z1;generalize w2.setCell ⟨qb,1,none⟩ (.slice x1 p.props.length y1)=w3 at *;obtain⟨q0,q1,q2,q3,q4,q5⟩:=P3.o.cs;go_wp2_with fail;refine(PE B p.au fa fc w3 (DY.o.below B3.o hB).au).mono ?_;rintro e w4 ⟨u2,rfl,hu,hb⟩;obtain⟨x2,y2,rfl⟩:∃x y,u2=Value.slice x p.au.length y:=(lC.sg hu DY.o.au).form;have L2:Hid (lC base fa w4 (.slice x2 p.au.length y2) p.au):=lC.mono hu hz1;have B4:Hid (Below pb w w4):=B3.o.trans (hb.mono (by have:=B3.o.size;have:=U0.o;omega));have P4:Hid (Qa w4 pb (.string p.root) (.slice pa p.props.length pc) (.slice fa p.au.length fc) (.slice aa p.ats.length ac) (.bool p.aO) (.bool p.texts)):=P3.o.below hb P3.o.lt;have Q4:Hid (Qa w4 qb (.string p.root) (.slice x1 p.props.length y1) (.slice fa p.au.length fc) (.slice aa p.ats.length ac) (.bool p.aO) (.bool p.texts)):=Q3.o.below hb Q3.o.lt
 have ae4:Hid (lC base pa w4 (.slice x1 p.props.length y1) p.props):=L1b.o.below hb;have hz:base<=w4.heap.size:=Nat.le_trans hz1 hb.size;clear hu hb q0 q1 q2 q3 q4 q5;have B5:Hid (Below pb w (w4.setCell ⟨qb,2,none⟩ (.slice x2 p.au.length y2))):=B4.o.setCell (by show pb<=qb;omega) _;have P5:Hid (Qa (w4.setCell ⟨qb,2,none⟩ (.slice x2 p.au.length y2)) pb (.string p.root) (.slice pa p.props.length pc) (.slice fa p.au.length fc) (.slice aa p.ats.length ac) (.bool p.aO) (.bool p.texts)):=P4.o.keep (Below.heap_setCell _ _ _ _ (by show pb≠qb;omega));have Q5:Hid (Qa (w4.setCell ⟨qb,2,none⟩ (.slice x2 p.au.length y2)) qb (.string p.root) (.slice x1 p.props.length y1) (.slice x2 p.au.length y2) (.slice aa p.ats.length ac) (.bool p.aO) (.bool p.texts)):=Q4.o.set2 _
 have hz2:base<=(w4.setCell ⟨qb,2,none⟩ (.slice x2 p.au.length y2)).heap.size:=by simp[World.setCell];exact hz
 have adZ:Hid (lC base pa (w4.setCell ⟨qb,2,none⟩ (.slice x2 p.au.length y2)) (.slice x1 p.props.length y1) p.props):=ae4.o.set hq0 _;have L2b:Hid (lC base fa (w4.setCell ⟨qb,2,none⟩ (.slice x2 p.au.length y2)) (.slice x2 p.au.length y2) p.au):=L2.o.set hq0 _;obtain⟨r0,r1,r2,r3,r4,r5⟩:=Q4.o.cs;have z2:=Q4.o.fz 2;go_upto_region 4 with fail
 clear hz r0 r1 r2 r3 r4 r5 z2;generalize w4.setCell ⟨qb,2,none⟩ (.slice x2 p.au.length y2)=w5 at *;obtain⟨q0,q1,q2,q3,q4,q5⟩:=P5.o.cs;go_wp2_with fail;refine(PE B p.ats aa ac w5 (DY.o.below B5.o hB).ats).mono ?_;rintro e w6 ⟨u3,rfl,hu,hb⟩;obtain⟨x3,y3,rfl⟩:∃x y,u3=Value.slice x p.ats.length y:=(lC.sg hu DY.o.ats).form;have L3:Hid (lC base aa w6 (.slice x3 p.ats.length y3) p.ats):=lC.mono hu hz2;have B6:Hid (Below pb w w6):=B5.o.trans (hb.mono (by have:=B5.o.size;have:=U0.o;omega));have P6:Hid (Qa w6 pb (.string p.root) (.slice pa p.props.length pc) (.slice fa p.au.length fc) (.slice aa p.ats.length ac) (.bool p.aO) (.bool p.texts)):=P5.o.below hb P5.o.lt;have Q6:Hid (Qa w6 qb (.string p.root) (.slice x1 p.props.length y1) (.slice x2 p.au.length y2) (.slice aa p.ats.length ac) (.bool p.aO) (.bool p.texts)):=Q5.o.below hb Q5.o.lt
 have acp:Hid (lC base pa w6 (.slice x1 p.props.length y1) p.props):=adZ.o.below hb;have ae5:Hid (lC base fa w6 (.slice x2 p.au.length y2) p.au):=L2b.o.below hb;have hz:base<=w6.heap.size:=Nat.le_trans hz2 hb.size;clear hu hb q0 q1 q2 q3 q4 q5;have B7:Hid (Below pb w (w6.setCell ⟨qb,3,none⟩ (.slice x3 p.ats.length y3))):=B6.o.setCell (by show pb<=qb;omega) _;have P7:Hid (Qa (w6.setCell ⟨qb,3,none⟩ (.slice x3 p.ats.length y3)) pb (.string p.root) (.slice pa p.props.length pc) (.slice fa p.au.length fc) (.slice aa p.ats.length ac) (.bool p.aO) (.bool p.texts)):=P6.o.keep (Below.heap_setCell _ _ _ _ (by show pb≠qb;omega));have Q7:Hid (Qa (w6.setCell ⟨qb,3,none⟩ (.slice x3 p.ats.length y3)) qb (.string p.root) (.slice x1 p.props.length y1) (.slice x2 p.au.length y2) (.slice x3 p.ats.length y3) (.bool p.aO) (.bool p.texts)):=Q6.o.jr _
 have hz3:base<=(w6.setCell ⟨qb,3,none⟩ (.slice x3 p.ats.length y3)).heap.size:=by simp[World.setCell];exact hz
 have SC:Hid (lC base pa (w6.setCell ⟨qb,3,none⟩ (.slice x3 p.ats.length y3)) (.slice x1 p.props.length y1) p.props):=acp.o.set hq0 _;have aaN:Hid (lC base fa (w6.setCell ⟨qb,3,none⟩ (.slice x3 p.ats.length y3)) (.slice x2 p.au.length y2) p.au):=ae5.o.set hq0 _;have L3b:Hid (lC base aa (w6.setCell ⟨qb,3,none⟩ (.slice x3 p.ats.length y3)) (.slice x3 p.ats.length y3) p.ats):=L3.o.set hq0 _;obtain⟨r0,r1,r2,r3,r4,r5⟩:=Q6.o.cs;have z3:=Q6.o.fz 3;go_upto_region 5 with fail
 clear hz r0 r1 r2 r3 r4 r5 z3;generalize w6.setCell ⟨qb,3,none⟩ (.slice x3 p.ats.length y3)=w7 at *;have hpm:iO w7.heap.size w7 p (.slice x1 p.props.length y1) (.slice x2 p.au.length y2) (.slice x3 p.ats.length y3):=⟨SC.o.sg DY.o.props,aaN.o.sg DY.o.au,L3b.o.sg DY.o.ats,Nat.le_refl _⟩;have B7':Below w.heap.size w w7:=by rw[U0.o];exact B7.o
 have CR:=aas w7.heap.size s p (.slice x1 p.props.length y1) (.slice x2 p.au.length y2) (.slice x3 p.ats.length y3) w7 hpm (NQ.o.below B7' nl) Si.o (HL.o.below B7') hr hs;unfold dD at CR;obtain⟨⟨ra,re⟩,Hra⟩:∃x,Hid (jM s p=x):=⟨_,hid rfl⟩;rw[Hra.o]at CR;have CR':Hid (Calls prog 10 #[.string s,.agg #[.string p.root,(.slice x1 p.props.length y1),(.slice x2 p.au.length y2),(.slice x3 p.ats.length y3),.bool p.aO,.bool p.texts]] w7 fun e w'=>e=.returned (.tuple #[.string ra,.int .i64 re])/\Below w7.heap.size w7 w'):=CR;clear CR hpm B7';obtain⟨r0,r1,r2,r3,r4,r5⟩:=Q7.o.cs;go_wp2_with fail;refine CR'.o.mono ?_;rintro e w8 ⟨rfl,hb⟩;have B8:Hid (Below pb w w8):=B7.o.trans (hb.mono (by have:=B7.o.size;have:=U0.o;omega))
 have P8:Hid (Qa w8 pb (.string p.root) (.slice pa p.props.length pc) (.slice fa p.au.length fc) (.slice aa p.ats.length ac) (.bool p.aO) (.bool p.texts)):=P7.o.below hb P7.o.lt;have Q8:Hid (Qa w8 qb (.string p.root) (.slice x1 p.props.length y1) (.slice x2 p.au.length y2) (.slice x3 p.ats.length y3) (.bool p.aO) (.bool p.texts)):=Q7.o.below hb Q7.o.lt;have M1:Hid (lC base pa w8 (.slice x1 p.props.length y1) p.props):=SC.o.below hb;have M2:Hid (lC base fa w8 (.slice x2 p.au.length y2) p.au):=aaN.o.below hb;have M3:Hid (lC base aa w8 (.slice x3 p.ats.length y3) p.ats):=L3b.o.below hb;clear hb CR' r0 r1 r2 r3 r4 r5;obtain⟨r0,r1,r2,r3,r4,r5⟩:=Q8.o.cs;obtain⟨q0,q1,q2,q3,q4,q5⟩:=P8.o.cs
 have CB:Hid (Calls prog 11 #[(.slice x1 p.props.length y1),.slice pa p.props.length pc] w8 fun e w'=>e=.returned (.bool true)/\Below w8.heap.size w8 w'):=yQ B base p.props pa pc (.slice x1 p.props.length y1) w8 (DY.o.below B8.o hB).props M1.o;go_wp2_with fail;refine CB.o.mono ?_;rintro e w9 ⟨rfl,hb⟩;have B9:Hid (Below pb w w9):=B8.o.trans (hb.mono (by have:=B8.o.size;have:=U0.o;omega));have P9:Hid (Qa w9 pb (.string p.root) (.slice pa p.props.length pc) (.slice fa p.au.length fc) (.slice aa p.ats.length ac) (.bool p.aO) (.bool p.texts)):=P8.o.below hb P8.o.lt;have Q9:Hid (Qa w9 qb (.string p.root) (.slice x1 p.props.length y1) (.slice x2 p.au.length y2) (.slice x3 p.ats.length y3) (.bool p.aO) (.bool p.texts)):=Q8.o.below hb Q8.o.lt;have M2c:Hid (lC base fa w9 (.slice x2 p.au.length y2) p.au):=M2.o.below hb
 have M3c:Hid (lC base aa w9 (.slice x3 p.ats.length y3) p.ats):=M3.o.below hb;clear hb CB r0 r1 r2 r3 r4 r5 q0 q1 q2 q3 q4 q5;obtain⟨r0,r1,r2,r3,r4,r5⟩:=Q9.o.cs;obtain⟨q0,q1,q2,q3,q4,q5⟩:=P9.o.cs;have CB:Hid (Calls prog 11 #[(.slice x2 p.au.length y2),.slice fa p.au.length fc] w9 fun e w'=>e=.returned (.bool true)/\Below w9.heap.size w9 w'):=yQ B base p.au fa fc (.slice x2 p.au.length y2) w9 (DY.o.below B9.o hB).au M2c.o;go_wp2_with fail;refine CB.o.mono ?_;rintro e w10 ⟨rfl,hb⟩;have B10:Hid (Below pb w w10):=B9.o.trans (hb.mono (by have:=B9.o.size;have:=U0.o;omega));have P10:Hid (Qa w10 pb (.string p.root) (.slice pa p.props.length pc) (.slice fa p.au.length fc) (.slice aa p.ats.length ac) (.bool p.aO) (.bool p.texts)):=P9.o.below hb P9.o.lt
 have Q10:Hid (Qa w10 qb (.string p.root) (.slice x1 p.props.length y1) (.slice x2 p.au.length y2) (.slice x3 p.ats.length y3) (.bool p.aO) (.bool p.texts)):=Q9.o.below hb Q9.o.lt;have ae6:Hid (lC base aa w10 (.slice x3 p.ats.length y3) p.ats):=M3c.o.below hb;clear hb CB r0 r1 r2 r3 r4 r5 q0 q1 q2 q3 q4 q5;obtain⟨r0,r1,r2,r3,r4,r5⟩:=Q10.o.cs;obtain⟨q0,q1,q2,q3,q4,q5⟩:=P10.o.cs;have CB:Hid (Calls prog 11 #[(.slice x3 p.ats.length y3),.slice aa p.ats.length ac] w10 fun e w'=>e=.returned (.bool true)/\Below w10.heap.size w10 w'):=yQ B base p.ats aa ac (.slice x3 p.ats.length y3) w10 (DY.o.below B10.o hB).ats ae6.o;go_wp2_with fail;refine CB.o.mono ?_;rintro e YD ⟨rfl,hb⟩;have B11:Hid (Below pb w YD):=B10.o.trans (hb.mono (by have:=B10.o.size;have:=U0.o;omega))
 have P11:Hid (Qa YD pb (.string p.root) (.slice pa p.props.length pc) (.slice fa p.au.length fc) (.slice aa p.ats.length ac) (.bool p.aO) (.bool p.texts)):=P10.o.below hb P10.o.lt;have Q11:Hid (Qa YD qb (.string p.root) (.slice x1 p.props.length y1) (.slice x2 p.au.length y2) (.slice x3 p.ats.length y3) (.bool p.aO) (.bool p.texts)):=Q10.o.below hb Q10.o.lt;clear hb CB r0 r1 r2 r3 r4 r5 q0 q1 q2 q3 q4 q5;have ad1:Below w.heap.size w YD:=by rw[U0.o];exact B11.o
 have CF:=aau B s p (.slice pa p.props.length pc) (.slice fa p.au.length fc) (.slice aa p.ats.length ac) YD (DY.o.below B11.o hB) (NQ.o.below ad1 nl) Si.o hr hs;unfold dD at CF;rw[Hra.o]at CF;have CF':Hid (Calls prog 12 #[.string s,.agg #[.string p.root,.slice pa p.props.length pc,.slice fa p.au.length fc,.slice aa p.ats.length ac,.bool p.aO,.bool p.texts]] YD fun e w'=>e=.returned (.tuple #[.string ra,.int .i64 re])/\Below YD.heap.size YD w'):=CF;clear CF ad1;obtain⟨q0,q1,q2,q3,q4,q5⟩:=P11.o.cs;go_wp2_with fail;refine CF'.o.mono ?_;rintro e w12 ⟨rfl,hb⟩;have B12:Hid (Below pb w w12):=B11.o.trans (hb.mono (by have:=B11.o.size;have:=U0.o;omega));clear hb CF' q0 q1 q2 q3 q4 q5;have haa:(ra.toList==ra.toList)=true:=by simp
 have hee:(re==re)=true:=by simp
 go_wp2_with fail;go_ret;exact⟨aI (by simp),by rw[U0.o];exact B12.o⟩
end
def Yi:Nat->Nat->List UInt8
 |0,_=>[]
 |f+1,u=>if u<10 then [UInt8.ofNat (48+u)] else Yi f (u/10)++[UInt8.ofNat (48+u%10)]
theorem Og:∀(f u:Nat),u<10 ^ (f+1)->Lib.decDigits u=Yi (f+1) u
 |0,u,h=>by
  rw[Lib.decDigits];unfold Yi;have:u<10:=by simpa using h
  rw[dif_pos this,if_pos this]
 |f+1,u,h=>by
  rw[Lib.decDigits];unfold Yi;by_cases h10:u<10
  .rw[dif_pos h10,if_pos h10]
  .rw[dif_neg h10,if_neg h10,Og f (u/10) (by rw[Nat.pow_succ]at h;omega)]
theorem aav:∀n:Fin 1001,Yi 4 n.val=(Nat.toDigits 10 n.val).map (fun c=>UInt8.ofNat c.toNat):=by decide +kernel
theorem UL:∀n:Fin 1001,(Nat.toDigits 10 n.val).length<=100:=by decide +kernel
theorem Yj{n:Nat}(h:n<=1000):(⟨(Lib.itoa (n:Int)).toArray⟩:ByteArray)=Ej n:=by
 have e:Lib.itoa (n:Int)=Lib.decDigits n:=by unfold Lib.itoa;rw[if_neg oo];rfl
 rw[e,Og 3 n oo,aav ⟨n,oo⟩];rfl
theorem aaO:ig:=fun n hn=>by show(List.map _ (Nat.toDigits 10 n)).toArray.size<=100;rw[List.size_toArray,List.length_map];exact UL ⟨n,oo⟩
theorem Yk : (prog.globalNamed "internal/strconv.uint64pow10").isSome = true := by kernel_rfl
theorem aaw (w : World) (htab : Lib.TabIs prog w "internal/strconv.uint64pow10" .u64 Lib.pow10Tab) : eX w := fun n w' hn hb => by
 obtain⟨g,hg⟩:=Option.isSome_iff_exists.1 Yk;have hgl:g<w.heap.size:=by
  have h:=htab;unfold Lib.TabIs World.var? at h;rw[hg]at h;simp only[Option.bind_some]at h;rcases Nat.lt_or_ge g w.heap.size with q|q
  .exact q
  .rw[Array.getElem?_eq_none q]at h;cases h
 have ht : Lib.TabIs prog w' "internal/strconv.uint64pow10" .u64 Lib.pow10Tab := var?_below hb hg hgl htab;refine (Tryz.strconv_Itoa (n:Int) oo oo w' ht).mono ?_;rintro e w2 ⟨rfl,k,os,rfl⟩;exact⟨by rw [Yj hn],⟨rfl,rfl,rfl,by show w'.heap.size≤(w'.heap++os).size;simp,fun i hi=>by show (w'.heap++os)[i]?=w'.heap[i]?;rw [Array.getElem?_append_left hi]⟩⟩
def KG:ug aS:=fun S w p cs=>∃pv fv av,cs=[.string p.root,pv,fv,av,.bool p.aO,.bool p.texts]/\SG iI 1 S w pv p.props/\SG iI 1 S w fv p.au/\SG iI 1 S w av p.ats/\p.root.size<=4194304
theorem KG.fair:Fair KG:=by rintro S S' w w' p cs hS hw ⟨pv,fv,av,h1,h2,h3,h4,h5⟩;exact⟨pv,fv,av,h1,h2.keep iI.fair hS hw,h3.keep iI.fair hS hw,h4.keep iI.fair hS hw,h5⟩
theorem LG.pol{S:Nat->Prop}{w:World}{l:List aS}{g o i:Nat}(h:LG KG 6 S w l g o)(hi:i<l.length):S g/\∃pv fv av,(w.cell? ⟨g,o+i*6,none⟩=some (.string l[i].root)/\w.cell? ⟨g,o+i*6+1,none⟩=some pv/\w.cell? ⟨g,o+i*6+2,none⟩=some fv/\w.cell? ⟨g,o+i*6+3,none⟩=some av/\w.cell? ⟨g,o+i*6+4,none⟩=some (.bool l[i].aO)/\w.cell? ⟨g,o+i*6+5,none⟩=some (.bool l[i].texts))/\SG iI 1 S w pv l[i].props/\SG iI 1 S w fv l[i].au/\SG iI 1 S w av l[i].ats/\l[i].root.size<=4194304:=by obtain⟨h0,cs,⟨pv,fv,av,rfl,h1,h2,h3,h4⟩,hc⟩:=h.at l g o i hi;refine⟨h0,pv,fv,av,⟨?_,hc 1 _ rfl,hc 2 _ rfl,hc 3 _ rfl,hc 4 _ rfl,hc 5 _ rfl⟩,h1,h2,h3,h4⟩;have:=hc 0 _ rfl;rwa[Nat.add_zero]at this
def acr:aS:=⟨⟨#[114]⟩,[⟨#[99,111,108,111,114]⟩],[],[],false,false⟩
theorem acs(w:World):iO (w.alloc (.cells #[.string ⟨#[99,111,108,111,114]⟩] 9)).heap.size (w.alloc (.cells #[.string ⟨#[99,111,108,111,114]⟩] 9)) acr (.slice (some ⟨w.heap.size,0,none⟩) 1 1) (.slice none 0 0) (.slice none 0 0):=by refine⟨⟨_,1,rfl,⟨Nat.le_refl _,by show 1<=2097152;omega⟩,fun _=>⟨w.heap.size,0,rfl,?_⟩⟩,SG.iG _ _ _ _ _ _,SG.iG _ _ _ _ _ _,Nat.le_refl _⟩;refine⟨⟨by simp,[.string ⟨#[99,111,108,111,114]⟩],⟨rfl,by decide⟩,fun j u hu=>?_⟩,by simp[LG]⟩;have:=cell_one_new w (.string ⟨#[99,111,108,111,114]⟩) 9 j u hu;rwa[Addr.add_lit]at this
theorem Yl(B:Nat)(zs:List ByteArray)(ps:List aS)(zv pv:Value)(w:World)(hz:SG iI 1 (fun b=>b<B) w zv zs)(hp:SG KG 6 (fun b=>b<B) w pv ps)(hB:B<=w.heap.size)(hI:eX w)(hl:Lit w):
  Calls prog 3 #[zv,pv] w fun e w'=>e=.returned (.bool true)/\Below w.heap.size w w':=by
 have hzl:=hz.len;have hpl:=hp.len;have HZ:Hid (SG iI 1 (fun b=>b<B) w zv zs):=hz;have HP:Hid (SG KG 6 (fun b=>b<B) w pv ps):=hp;have NQ:Hid (eX w):=hI;have HL:Hid (Lit w):=hl;obtain⟨za,zc,rfl⟩:=hz.form;obtain⟨pa,pc,rfl⟩:=hp.form;clear hz hp hI hl;have B1:Hid (Below w.heap.size w (w.alloc (.cells #[.string ⟨#[99,111,108,111,114]⟩] 9))):=(Below.refl _ _).alloc nl _;have C1:=Oe _ ⟨#[112,123,99,111,108,111,114,58,114,101,100,125]⟩ acr _ _ _ (w.alloc (.cells #[.string ⟨#[99,111,108,111,114]⟩] 9)) (acs w) (NQ.o.below B1.o nl) aaO (HL.o.below B1.o) (by decide) (by decide);unfold dD acr at C1;have C1':=hid C1;clear C1;go_in;go_wp2_with fail;refine C1'.o.mono ?_;rintro e w2 ⟨rfl,hb⟩;have B2:Hid (Below w.heap.size w w2):=B1.o.trans (hb.mono B1.o.size);clear hb C1';go_wp2_with fail
 go_loopg[5,6] zs.length (fun gg v5 v6 wr=>∃i:Nat,i+gg=zs.length/\v5=.bool true/\v6=.int .i64 (i:Int)/\Aside (Below w.heap.size w wr));case atStart=>exact⟨0,oo,rfl,rfl,B2.o⟩
 case round=>
  obtain⟨wo,rfl⟩:∃q,q=wr:=⟨_,rfl⟩;obtain⟨i,hi,rfl,rfl,hA⟩:=hrel;have BO:Hid (Below w.heap.size w wo):=hA.o;clear hA;by_cases hlt:i<zs.length
  .have h1:(i:Int)<(zs.length:Int):=oo;go_wp2_with fail;go_loopg[5,7] ps.length (fun gg v5 v7 wr=>∃k:Nat,k+gg=ps.length/\v5=.bool true/\v7=.int .i64 (k:Int)/\Aside (Below w.heap.size w wr));case atStart=>exact⟨0,oo,rfl,rfl,BO.o⟩
   case round=>
    obtain⟨wy,rfl⟩:∃q,q=wr:=⟨_,rfl⟩;obtain⟨k,hk,rfl,rfl,hA⟩:=hrel;have BY:Hid (Below w.heap.size w wy):=hA.o;clear hA;by_cases hltk:k<ps.length
    .have h2:(k:Int)<(ps.length:Int):=oo;obtain⟨g,o,e,hL,hcap⟩:=HZ.o.here (by rintro rfl;simp at hlt);cases e;obtain⟨hg,cz,hsz⟩:=hL.str (i:=i) hlt;have hgB:g<B:=hg;obtain⟨m1,Hm1⟩:∃m,Hid (zs.length-1=m):=⟨_,hid rfl⟩;obtain⟨m,Hm⟩:∃m,Hid (m1-i=m):=⟨_,hid rfl⟩;have hm1:(zs.length:Int)-1=(m1:Int):=by have:=Hm1.o;omega
     have hw1:IntKind.i64.wrap ((zs.length:Int)-1)=(m1:Int):=by rw[IntKind.wrap_i64];omega
     have hmi:(m1:Int)-(i:Int)=(m:Int):=by have:=Hm1.o;have:=Hm.o;omega
     have hwm:IntKind.i64.wrap ((m1:Int)-(i:Int))=(m:Int):=by rw[IntKind.wrap_i64];omega
     have afN:IntKind.i64.wrap (m1:Int)=(m1:Int):=by rw[IntKind.wrap_i64];omega
     have hml:m<zs.length:=by have:=Hm1.o;have:=Hm.o;omega
     have afO:IntKind.i64.wrap (m:Int)=(m:Int):=by rw[IntKind.wrap_i64];omega
     have hmI:(m:Int)<(zs.length:Int):=oo;have hm0:(0:Int)<=(m:Int):=oo;obtain⟨_,cm,hsm⟩:=hL.str (i:=m) hml;obtain⟨g2,o2,e,hL2,hcap2⟩:=HP.o.here (by rintro rfl;simp at hltk);cases e;obtain⟨hg2,qv,fv,av,hcs,hq1,hq2,hq3,hroot⟩:=hL2.pol (i:=k) hltk;have aez:g2<B:=hg2;have ae7:Hid (iO B w ps[k] qv fv av):=⟨hq1,hq2,hq3,hB⟩;obtain⟨x1,y1,rfl⟩:=hq1.form;obtain⟨x2,y2,rfl⟩:=hq2.form;obtain⟨x3,y3,rfl⟩:=hq3.form;generalize ps[k]=p at *;generalize zs[i]=s at *;generalize zs[m]=t at *
     have nU:Hid (∀wq,Below w.heap.size w wq->(wq.cell? ⟨g,o+i,none⟩=some (.string s)/\wq.cell? ⟨g,o+m,none⟩=some (.string t))/\wq.cell? ⟨g2,o2+k*6,none⟩=some (.string p.root)/\wq.cell? ⟨g2,o2+k*6+1,none⟩=some (.slice x1 p.props.length y1)/\wq.cell? ⟨g2,o2+k*6+2,none⟩=some (.slice x2 p.au.length y2)/\wq.cell? ⟨g2,o2+k*6+3,none⟩=some (.slice x3 p.ats.length y3)/\wq.cell? ⟨g2,o2+k*6+4,none⟩=some (.bool p.aO)/\wq.cell? ⟨g2,o2+k*6+5,none⟩=some (.bool p.texts)):=fun wq hb=>by have e1:∀x,wq.cell? ⟨g,x,none⟩=w.cell? ⟨g,x,none⟩:=fun x=>hb.cell (p:=⟨g,x,none⟩) (show g<w.heap.size by omega);have e2:∀x,wq.cell? ⟨g2,x,none⟩=w.cell? ⟨g2,x,none⟩:=fun x=>hb.cell (p:=⟨g2,x,none⟩) (show g2<w.heap.size by omega);rw[e1,e1,e2,e2,e2,e2,e2,e2];exact⟨⟨cz,cm⟩,hcs⟩
     have CALL:Hid (∀(x:ByteArray) (wq:World),x.size<=4194304->Below w.heap.size w wq->Calls prog 5 #[.string x,.agg #[.string p.root,.slice x1 p.props.length y1,.slice x2 p.au.length y2,.slice x3 p.ats.length y3,.bool p.aO,.bool p.texts]] wq fun e w'=>e=.returned (.bool true)/\Below wq.heap.size wq w'):=fun x wq hx hb=>by have C:=Oe B x p _ _ _ wq (ae7.o.below hb hB) (NQ.o.below hb nl) aaO (HL.o.below hb) hroot oo;unfold dD at C;exact C
     clear hL hL2 hcs hq1 hq2 hq3 cz cm hg hg2;have S1:Hid (Below w.heap.size w wy.drew):=BY.o.drew;go_wp2_with fail;refine wp_region_any (by kernel_rfl) ?_;change wpAny _ _ _ _ _ _ _ (World.drew _);refine wpAny_of_held (S:=fun wq=>Below w.heap.size w wq) _ _ _ _ ?_;refine bY 0 rfl S1.o (by intro w hSw;obtain⟨⟨e1,e2⟩,c0,c1,c2,c3,c4,c5⟩:=nU.o _ hSw;exact gs) ?_;refine bY 1 rfl S1.o (by intro w hSw;obtain⟨⟨e1,e2⟩,c0,c1,c2,c3,c4,c5⟩:=nU.o _ hSw;exact gs) ?_;refine bY 2 rfl S1.o (by intro w hSw;obtain⟨⟨e1,e2⟩,c0,c1,c2,c3,c4,c5⟩:=nU.o _ hSw;exact gs) ?_;refine bY 3 rfl S1.o (by intro w hSw;obtain⟨⟨e1,e2⟩,c0,c1,c2,c3,c4,c5⟩:=nU.o _ hSw;exact gs) ?_
     refine bY 4 rfl S1.o (by intro w hSw;obtain⟨⟨e1,e2⟩,c0,c1,c2,c3,c4,c5⟩:=nU.o _ hSw;exact gs) ?_;refine bY 5 rfl S1.o (by intro w hSw;obtain⟨⟨e1,e2⟩,c0,c1,c2,c3,c4,c5⟩:=nU.o _ hSw;exact gs) ?_;refine bY 6 rfl S1.o (by intro w hSw;obtain⟨⟨e1,e2⟩,c0,c1,c2,c3,c4,c5⟩:=nU.o _ hSw;exact gs) ?_;refine bY 7 rfl S1.o (by intro w hSw;obtain⟨⟨e1,e2⟩,c0,c1,c2,c3,c4,c5⟩:=nU.o _ hSw;exact gs) ?_;refine jh 8 fun K hK=>?_;go_simp;refine pmb (CALL.o s wy.drew hsz S1.o) fun w5 hb5=>?_;have B5:Hid (Below w.heap.size w w5):=S1.o.trans (hb5.mono S1.o.size);clear hb5;refine hK.o _ _ B5.o (fun _=>?_);clear hK K;refine jh 9 fun K hK=>?_;go_simp;refine hK.o _ _ (B5.o) (fun _=>?_);clear hK K;refine wpAnyH_done (by kernel_rfl) ?_ _
     have S5:Hid (Below w.heap.size w w5.drew):=B5.o.drew;go_wp2_with fail;refine wp_region_any (by kernel_rfl) ?_;change wpAny _ _ _ _ _ _ _ (World.drew _);refine wpAny_of_held (S:=fun wq=>Below w.heap.size w wq) _ _ _ _ ?_;refine bY 0 rfl S5.o (fun _ _=>gs) ?_;refine bY 1 rfl S5.o (fun _ _=>gs) ?_;refine bY 2 rfl S5.o (fun _ _=>gs) ?_;refine bY 3 rfl S5.o (fun _ _=>gs) ?_;refine bY 4 rfl S5.o (fun _ _=>gs) ?_;refine bY 5 rfl S5.o (fun _ _=>gs) ?_;refine bY 6 rfl S5.o (by intro w hSw;obtain⟨⟨e1,e2⟩,c0,c1,c2,c3,c4,c5⟩:=nU.o _ hSw;exact gs) ?_
     refine bY 7 rfl S5.o (by intro w hSw;obtain⟨⟨e1,e2⟩,c0,c1,c2,c3,c4,c5⟩:=nU.o _ hSw;exact gs) ?_;refine bY 8 rfl S5.o (by intro w hSw;obtain⟨⟨e1,e2⟩,c0,c1,c2,c3,c4,c5⟩:=nU.o _ hSw;exact gs) ?_;refine bY 9 rfl S5.o (by intro w hSw;obtain⟨⟨e1,e2⟩,c0,c1,c2,c3,c4,c5⟩:=nU.o _ hSw;exact gs) ?_;refine bY 10 rfl S5.o (by intro w hSw;obtain⟨⟨e1,e2⟩,c0,c1,c2,c3,c4,c5⟩:=nU.o _ hSw;exact gs) ?_;refine bY 11 rfl S5.o (by intro w hSw;obtain⟨⟨e1,e2⟩,c0,c1,c2,c3,c4,c5⟩:=nU.o _ hSw;exact gs) ?_;refine jh 12 fun K hK=>?_;go_simp;refine pmb (CALL.o t w5.drew hsm S5.o) fun w7 hb7=>?_;have B7:Hid (Below w.heap.size w w7):=S5.o.trans (hb7.mono S5.o.size);clear hb7;refine hK.o _ _ B7.o (fun _=>?_)
     clear hK K;refine jh 13 fun K hK=>?_;go_simp;refine hK.o _ _ (B7.o) (fun _=>?_);clear hK K;refine wpAnyH_done (by kernel_rfl) ?_ _;go_wp2_with fail;go_roundg(ps.length-(k+1));case measure=>omega
     case rel=>exact⟨k+1,oo,rfl,by congr 1,B7.o⟩
    .have h2:(ps.length:Int)<=(k:Int):=oo;go_wp2_with fail;go_roundg(zs.length-(i+1));case measure=>omega
     case rel=>exact⟨i+1,oo,rfl,by congr 1,BY.o⟩
  .have h1:(zs.length:Int)<=(i:Int):=oo;go_wp2_with fail;go_ret;exact⟨rfl,BO.o⟩
end Go.Proofs.YtlliliddljkbfaaGreatDoor
namespace Go.Proofs.YtlliliddljkbfaaGreatDoor
set_option maxHeartbeats 64000000
set_option maxRecDepth 100000
open Go.Proofs.Tryz (prog)
open Go.ChangeShapes Go.WideShapes Go.ChangeAt Go.RowKit Sp
theorem Oh:prog.cellsOf 9=1:=by kernel_rfl
theorem Gw:prog.cellsOf 26=6:=by kernel_rfl
theorem Ym{H:Type}(d:DataW H):1<=Rows.uptoBulk d:=by
 cases d with
 |lit l=>cases l<;>simp[Rows.uptoBulk]
 |_=>simp[Rows.uptoBulk]
theorem Oi{H:Type}{d:DataW H}{l:List (DataW H)}(h:d∈l):Rows.uptoBulk d<=Rows.uptoBulkAll l:=by
 induction l with
 |nil=>cases h
 |cons x r ih=>
  simp only[Rows.uptoBulkAll];cases List.mem_cons.1 h with
  |inl e=>subst e;omega
  |inr e=>have:=ih e;omega
theorem Dp{H:Type}(l:List (DataW H)):l.length<=Rows.uptoBulkAll l:=by
 induction l with
 |nil=>simp[Rows.uptoBulkAll]
 |cons x r ih=>have:=Ym x;simp only[Rows.uptoBulkAll,List.length_cons];omega
theorem cell_lt{W:World}{g o:Nat}{v:Value}(h:W.cell? ⟨g,o,none⟩=some v):g<W.heap.size:=World.block_lt_of_cell? W _ h
theorem add_zero'(a:Addr):a.add 0=a:=by unfold Addr.add;rw[if_pos rfl]
theorem Jp{W:World}{a:Addr}{v:Value}(h:W.cell? (a.add 0)=some v):∃g o,a=⟨g,o,none⟩:=by rw[add_zero']at h;obtain⟨g,o,sp⟩:=a;have hs:sp=none:=World.cell?_spot h;exact⟨g,o,by rw[hs]⟩
section
variable {H:Type} {enc:TypeId × Value->H} {W:World}
theorem wK{fuel:Nat}{cs:List Value}{d:DataW H}{pl:List MemPlace}(h:DataW.trod enc prog W 0 (fun _=>true) true fuel 22 cs=some (d,pl))(hb:Rows.uptoBulk d<=1048576):
  ∃a cap zs,cs=[.slice a (zs:List ByteArray).length cap]/\SG iI 1 (fun b=>b<W.heap.size) W (.slice a zs.length cap) zs:=by
 rcases open_strings Tryz.underlying22 Tryz.underlying9 Oh h with⟨hcs,_⟩|⟨a,len,cap,ss,hcs,_,hl,_,hz,hx,hcell,_⟩
 .exact⟨none,0,[],hcs,SG.iG _ _ _ _ _ _⟩
 .simp only[if_true]at hz;simp only[Prod.mk.injEq]at hx;obtain⟨hd,_⟩:=hx;have hlen:(ss.take len).length=len:=by rw[List.length_take];omega
  rw[hd]at hb;simp only[Rows.uptoBulk]at hb;have h1:=Dp (strs (H:=H) (ss.take len));have h2:(strs (H:=H) (ss.take len)).length=len:=by simp only[strs,List.length_map];exact hlen
  have hsz:∀x∈ss.take len,x.size<=4194304:=fun x hx=>by
   have hm:(DataW.lit (.string x.data.toList):DataW H)∈strs (H:=H) (ss.take len):=by simp only[strs];exact List.mem_map.2 ⟨x,hx,rfl⟩
   have:=Oi hm;simp only[Rows.uptoBulk]at this;have e:x.data.toList.length=x.size:=jH x;omega
  refine⟨some a,cap,ss.take len,by rw[hcs,hlen],_,cap,rfl,⟨oo,oo⟩,fun hn=>?_⟩;have hpos:0<len:=by
   rcases Nat.eq_zero_or_pos len with e|e
   .exact absurd (by rw[e];rfl) hn
   .exact e
  obtain⟨g,o,rfl⟩:=Jp (hcell 0 oo);have hg:g<W.heap.size:=by have:=hcell 0 oo;rw[Addr.add_lit]at this;exact cell_lt this
  refine⟨g,o,rfl,Fg (S:=fun b=>b<W.heap.size) hg _ o hsz fun j x hx=>?_⟩;have hj:j<len:=by have:=(List.getElem?_eq_some_iff.1 hx).1;omega
  have:=hcell j oo;rw[Addr.add_lit]at this;rw[this];rw[List.getElem?_take,if_pos hj]at hx;rw[List.getD_eq_getElem?_getD,hx];rfl
theorem Yn{fuel g o:Nat}{cs:List Value}{d:DataW H}{pl:List MemPlace}(h:DataW.trod enc prog W 0 (fun _=>true) true fuel 26 cs=some (d,pl))(hb:Rows.uptoBulk d<=1048576)(hg:g<W.heap.size)
  (hc:∀j u,cs[j]?=some u->W.cell? ⟨g,o+j,none⟩=some u):∃p,EG KG (fun b=>b<W.heap.size) W p g o:=by
 obtain⟨xs,n,_,hx,hl,hxl,hf⟩:=DataW.trod_struct Tryz.underlying26 h;rw[Gw]at hl;match xs,hxl,cs,hl with
 |[y0,y1,y2,y3,y4,y5],_,[v0,v1,v2,v3,v4,v5],_=>
  obtain⟨d1,p1⟩:=y1;obtain⟨d2,p2⟩:=y2;obtain⟨d3,p3⟩:=y3;simp only[Prod.mk.injEq]at hx;obtain⟨hd,_⟩:=hx;subst hd;simp only[Rows.uptoBulk,List.map_cons,List.map_nil,Rows.uptoBulkAll]at hb;have g0:=hf 0 _ rfl;have g1:=hf 1 _ rfl;have g2:=hf 2 _ rfl;have g3:=hf 3 _ rfl;have g4:=hf 4 _ rfl;have g5:=hf 5 _ rfl;have c1:prog.cellsOf 22=1:=by kernel_rfl
  have c4:prog.cellsOf 4=1:=by kernel_rfl
  simp[Oh,c1,c4]at g0 g1 g2 g3 g4 g5;obtain⟨s,hs,hs1,_⟩:=DataW.trod_string Tryz.underlying9 g0;obtain⟨b4,hb4,_⟩:=DataW.trod_bool Tryz.underlying4 g4;obtain⟨b5,hb5,_⟩:=DataW.trod_bool Tryz.underlying4 g5;obtain⟨a1,k1,z1,e1,S1⟩:=wK g1 oo;obtain⟨a2,k2,z2,e2,S2⟩:=wK g2 oo;obtain⟨a3,k3,z3,e3,S3⟩:=wK g3 oo;have hss:s.size<=4194304:=by rw[hs1]at hb;simp only[Rows.uptoBulk]at hb;have e:s.data.toList.length=s.size:=jH s;omega
  simp at hs hb4 hb5 e1 e2 e3;subst hs hb4 hb5 e1 e2 e3;exact⟨⟨s,z1,z2,z3,b4,b5⟩,hg,_,⟨_,_,_,rfl,S1,S2,S3,hss⟩,hc⟩
theorem Oj{g:Nat}:∀(n o:Nat) (_:∀i,i<n->∃p,EG KG (fun b=>b<W.heap.size) W p g (o+i*6)),∃ps:List aS,ps.length=n/\LG KG 6 (fun b=>b<W.heap.size) W ps g o
 |0,_,_=>⟨[],rfl,by simp[LG]⟩
 |n+1,o,h=>by
  obtain⟨p,hp⟩:=h 0 oo;obtain⟨ps,hl,hL⟩:=Oj n (o+6) fun i hi=>by have:=h (i+1) oo;rwa[show o+(i+1)*6=o+6+i*6 by omega]at this
  exact⟨p::ps,by simp[hl],by simpa using hp,hL⟩
theorem UM{fuel:Nat}{cs:List Value}{d:DataW H}{pl:List MemPlace}(h:DataW.trod enc prog W 0 (fun _=>true) true fuel 23 cs=some (d,pl))(hb:Rows.uptoBulk d<=1048576):
  ∃a cap ps,cs=[.slice a (ps:List aS).length cap]/\SG KG 6 (fun b=>b<W.heap.size) W (.slice a ps.length cap) ps:=by
 rcases Go.Deep.open_slice Tryz.underlying23 h with⟨hcs,_⟩|⟨a,len,cap,m,n,D,Pl,hcs,_,hl,_,hm,hx,hel⟩
 .exact⟨none,0,[],hcs,SG.iG _ _ _ _ _ _⟩
 .simp only[if_true]at hm;simp only[Prod.mk.injEq]at hx;obtain⟨hd,_⟩:=hx;rw[hd]at hb;simp only[Rows.uptoBulk]at hb;have h1:=Dp ((List.range len).map D);simp only[List.length_map,List.length_range]at h1;have hD:∀i,i<len->Rows.uptoBulk (D i)<=1048576:=fun i hi=>by
   have:=Oi (l:=(List.range len).map D) (List.mem_map.2 ⟨i,List.mem_range.2 hi,rfl⟩);omega
  rcases Nat.eq_zero_or_pos len with e|hpos
  .subst e;exact⟨some a,cap,[],by rw[hcs];rfl,_,cap,rfl,⟨by simp,by simp⟩,fun h=>absurd rfl h⟩
  .obtain⟨cs0,hc0,_⟩:=hel 0 oo;rw[Gw]at hc0;obtain⟨_,hl0,hcell0⟩:=World.cells?_some hc0;have Yo:=hcell0 0 oo;rw[List.getElem?_eq_getElem oo]at Yo;have ha:∃g o,a=⟨g,o,none⟩:=by
    rw[Nat.zero_mul,add_zero']at Yo;exact Jp Yo
   obtain⟨g,o,rfl⟩:=ha;have hg:g<W.heap.size:=by rw[Addr.add_lit,Addr.add_lit]at Yo;exact cell_lt Yo
   obtain⟨ps,hpl,hL⟩:=Oj (W:=W) (g:=g) len o fun i hi=>by
    obtain⟨csi,hci,hti⟩:=hel i oo;rw[Gw]at hci;obtain⟨_,hli,acu⟩:=World.cells?_some hci;refine Yn hti (hD i hi) hg fun j u hu=>?_;have hj:j<6:=by have:=(List.getElem?_eq_some_iff.1 hu).1;omega
    have:=acu j hj;rw[Addr.add_lit,Addr.add_lit,hu]at this;exact this
   subst hpl;exact⟨some ⟨g,o,none⟩,cap,ps,hcs,_,cap,rfl,⟨hl,oo⟩,fun _=>⟨g,o,rfl,hL⟩⟩
end
end Go.Proofs.YtlliliddljkbfaaGreatDoor
