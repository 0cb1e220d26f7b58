import Derived.Test.YtlliliddljkbfaaGreatDoorC23
import Derived.Test.YtlliliddljkbfaaGreatDoorC24
namespace Go.Proofs.YtlliliddljkbfaaGreatDoor
set_option maxHeartbeats 64000000
set_option maxRecDepth 100000
open Go.Proofs.Tryz (prog)
open Go.RowKit Sp
section
attribute [local go_sem] dH dI bQ bT
theorem Zu(zs:List ByteArray):zs.all (fun s=>dU s&&!(pk s 0==45))=(zs.all dU&&!zs.any uo):=by
 induction zs with
 |nil=>rfl
 |cons z r ih=>rw[List.all_cons,List.all_cons,List.any_cons,ih];show((dU z&&!uo z)&&_)=_;cases dU z<;>cases uo z<;>cases r.all dU<;>rfl
theorem JX(p:aS):kS p=((allB iM p.root&&decide (p.root.size<=12))&&yH p.props&&!p.props.any uo&&yH p.au&&yH p.ats):=by unfold kS yH;rw[Zu];show(allB iM p.root&&decide (p.root.size<=12)&&(decide (p.props.length<=20)&&(p.props.all dU&&!p.props.any uo))&&_&&_)=_;cases allB iM p.root&&decide (p.root.size<=12)<;>cases decide (p.props.length<=20)<;>cases p.props.all dU<;>cases p.props.any uo<;>rfl
def Qa(w:World)(b:Nat)(x0 x1 x2 x3 x4 x5:Value):Prop:=w.heap[b]?=some (.cells #[x0,x1,x2,x3,x4,x5] 26 (0,0))
theorem Qa.cs{w:World}{b:Nat}{x0 x1 x2 x3 x4 x5:Value}(h:Qa w b x0 x1 x2 x3 x4 x5):w.cell? ⟨b,0,none⟩=some x0/\w.cell? ⟨b,1,none⟩=some x1/\w.cell? ⟨b,2,none⟩=some x2/\w.cell? ⟨b,3,none⟩=some x3/\w.cell? ⟨b,4,none⟩=some x4/\w.cell? ⟨b,5,none⟩=some x5:=by have h':w.heap[b]?=_:=h;refine⟨?_,?_,?_,?_,?_,?_⟩<;>(unfold World.cell?;rw[h'];rfl)
theorem Qa.lt{w:World}{b:Nat}{x0 x1 x2 x3 x4 x5:Value}(h:Qa w b x0 x1 x2 x3 x4 x5):b<w.heap.size:=(Array.getElem?_eq_some_iff.1 h).1
theorem Qa.new(w:World)(x0 x1 x2 x3 x4 x5:Value):Qa (w.alloc (.cells #[x0,x1,x2,x3,x4,x5] 26)) w.heap.size x0 x1 x2 x3 x4 x5:=heap_alloc_new w _
theorem Qa.nb(p:aS)(pa fa aa:Option Addr)(pc fc ac:Nat)(w:World):Hid (Below w.heap.size w (w.alloc (.cells #[.string p.root,.slice pa p.props.length pc,.slice fa p.au.length fc,.slice aa p.ats.length ac,.bool p.aO,.bool p.texts] 26)))/\Hid (Qa (w.alloc (.cells #[.string p.root,.slice pa p.props.length pc,.slice fa p.au.length fc,.slice aa p.ats.length ac,.bool p.aO,.bool p.texts] 26)) w.heap.size (.string p.root) (.slice pa p.props.length pc) (.slice fa p.au.length fc) (.slice aa p.ats.length ac) (.bool p.aO) (.bool p.texts)):=⟨(Below.refl _ _).alloc nl _,Qa.new _ _ _ _ _ _ _⟩
theorem Qa.below{w w':World}{b g:Nat}{x0 x1 x2 x3 x4 x5:Value}(h:Qa w b x0 x1 x2 x3 x4 x5)(hb:Below g w w')(hg:b<g):Qa w' b x0 x1 x2 x3 x4 x5:=by show _=_;rw[hb.block b hg];exact h
theorem PD(B:Nat)(p:aS)(pv fv av:Value)(w:World)(h:iO B w p pv fv av)(hr:p.root.size<=4194304):
  Calls prog 49 #[dD p pv fv av] w fun e w'=>e=.returned (.bool (kS p))/\Below w.heap.size w w':=by
 obtain⟨pa,pc,rfl⟩:=h.props.form;obtain⟨fa,fc,rfl⟩:=h.au.form;obtain⟨aa,ac,rfl⟩:=h.ats.form;obtain⟨B0,Q0⟩:=Qa.nb p pa fa aa pc fc ac w;have HP:Hid (iO B (w.alloc (.cells #[.string p.root,.slice pa p.props.length pc,.slice fa p.au.length fc,.slice aa p.ats.length ac,.bool p.aO,.bool p.texts] 26)) p (.slice pa p.props.length pc) (.slice fa p.au.length fc) (.slice aa p.ats.length ac)):=h.below B0.o h.lt;have HE:Hid (kS p=((allB iM p.root&&decide (p.root.size<=12))&&yH p.props&&!p.props.any uo&&yH p.au&&yH p.ats)):=JX p;clear h;unfold dD;go_in;go_upto_region 1 with fail
 generalize w.alloc (.cells #[.string p.root,.slice pa p.props.length pc,.slice fa p.au.length fc,.slice aa p.ats.length ac,.bool p.aO,.bool p.texts] 26)=w0 at *;obtain⟨q0,q1,q2,q3,q4,q5⟩:=Q0.o.cs;have H1:=Wq p.root w0 hr;have H2:=yI _ p.props _ w0 HP.o.props;have H3:=vw p.props _ 90 uo _ w0 HP.o.props (fun _ _=>rfl) (fun x w _=>BH x w);have H4:=yI _ p.au _ w0 HP.o.au;have H5:=yI _ p.ats _ w0 HP.o.ats;obtain⟨z1,Z1⟩:∃z,Hid ((allB iM p.root&&decide (p.root.size<=12))=z):=⟨_,hid rfl⟩;obtain⟨z2,Z2⟩:∃z,Hid (yH p.props=z):=⟨_,hid rfl⟩;obtain⟨z3,Z3⟩:∃z,Hid (p.props.any uo=z):=⟨_,hid rfl⟩;obtain⟨z4,Z4⟩:∃z,Hid (yH p.au=z):=⟨_,hid rfl⟩;obtain⟨z5,Z5⟩:∃z,Hid (yH p.ats=z):=⟨_,hid rfl⟩;rw[Z1.o]at H1;rw[Z2.o]at H2;rw[Z3.o]at H3;rw[Z4.o]at H4
 rw[Z5.o]at H5;have HE2:Hid (kS p=(z1&&z2&&!z3&&z4&&z5)):=by show _=_;rw[HE.o,Z1.o,Z2.o,Z3.o,Z4.o,Z5.o]
 have C1:Hid (Calls prog 88 #[.string p.root] w0 fun e w'=>e=.returned (.bool z1)/\w'=w0):=H1;have C2:Hid (Calls prog 89 #[.slice pa p.props.length pc] w0 fun e w'=>e=.returned (.bool z2)/\w'=w0):=H2;have C3:Hid (Calls prog 80 #[.slice pa p.props.length pc,.func (.func 90) #[] #[]] w0 fun e w'=>e=.returned (.bool z3)/\w'=w0):=H3;have C4:Hid (Calls prog 89 #[.slice fa p.au.length fc] w0 fun e w'=>e=.returned (.bool z4)/\w'=w0):=H4;have C5:Hid (Calls prog 89 #[.slice aa p.ats.length ac] w0 fun e w'=>e=.returned (.bool z5)/\w'=w0):=H5;clear H1 H2 H3 H4 H5 HE HP;go_wp2_with fail;refine C1.o.mono ?_;rintro e wq ⟨rfl,hwq⟩;rw[hwq];clear hwq;cases z1
 .have HV:Hid (kS p=false):=HE2.o;go_wp2_with fail;go_ret;exact⟨aI HV.o.symm,B0.o⟩
 go_wp2_with fail;refine C2.o.mono ?_;rintro e wq ⟨rfl,hwq⟩;rw[hwq];clear hwq;cases z2
 .have HV:Hid (kS p=false):=HE2.o;go_wp2_with fail;go_ret;exact⟨aI HV.o.symm,B0.o⟩
 go_wp2_with fail;refine C3.o.mono ?_;rintro e wq ⟨rfl,hwq⟩;rw[hwq];clear hwq;cases z3
 .go_wp2_with fail;refine C4.o.mono ?_;rintro e wq ⟨rfl,hwq⟩;rw[hwq];clear hwq;cases z4
  .have HV:Hid (kS p=false):=HE2.o;go_wp2_with fail;go_ret;exact⟨aI HV.o.symm,B0.o⟩
  go_wp2_with fail;refine C5.o.mono ?_;rintro e wq ⟨rfl,hwq⟩;rw[hwq];clear hwq;have HV:Hid (kS p=z5):=HE2.o;go_wp2_with fail;go_ret;exact⟨aI HV.o.symm,B0.o⟩
 .have HV:Hid (kS p=false):=HE2.o;go_wp2_with fail;go_ret;exact⟨aI HV.o.symm,B0.o⟩
theorem Q6.fz{w:World}{b:Nat}{x0 x1 x2 x3 x4 x5:Value}(h:Q6 w b x0 x1 x2 x3 x4 x5)(o:Nat):w.frozen? ⟨b,o,none⟩=false:=by have h':w.heap[b]?=_:=h;unfold World.frozen?;rw[h'];simp
theorem Zv(B:Nat)(p:aS)(pv fv av:Value)(w:World)(h:iO B w p pv fv av)(hr:p.root.size<=4194304):
  Calls prog 22 #[dD p pv fv av] w fun e w'=>(∃u,e=.returned (.tuple #[u,.bool (kS p)])/\(kS p=true->u=dD p pv fv av)/\(kS p=false->u=.agg #[.string ⟨#[]⟩,.slice none 0 0,.slice none 0 0,.slice none 0 0,.bool false,.bool false]))/\Below w.heap.size w w':=by
 obtain⟨pa,pc,rfl⟩:=h.props.form;obtain⟨fa,fc,rfl⟩:=h.au.form;obtain⟨aa,ac,rfl⟩:=h.ats.form;have hB:=h.lt;obtain⟨B0,Q0⟩:=Qa.nb p pa fa aa pc fc ac w;have Ot:Hid (iO B (w.alloc (.cells #[.string p.root,.slice pa p.props.length pc,.slice fa p.au.length fc,.slice aa p.ats.length ac,.bool p.aO,.bool p.texts] 26)) p (.slice pa p.props.length pc) (.slice fa p.au.length fc) (.slice aa p.ats.length ac)):=h.below B0.o hB;have B1:Hid (Below w.heap.size w ((w.alloc (.cells #[.string p.root,.slice pa p.props.length pc,.slice fa p.au.length fc,.slice aa p.ats.length ac,.bool p.aO,.bool p.texts] 26)).alloc (.cells #[.string ⟨#[]⟩,.slice none 0 0,.slice none 0 0,.slice none 0 0,.bool false,.bool false] 51))):=B0.o.alloc (by simp) _
 have X1:Hid (Below (w.alloc (.cells #[.string p.root,.slice pa p.props.length pc,.slice fa p.au.length fc,.slice aa p.ats.length ac,.bool p.aO,.bool p.texts] 26)).heap.size (w.alloc (.cells #[.string p.root,.slice pa p.props.length pc,.slice fa p.au.length fc,.slice aa p.ats.length ac,.bool p.aO,.bool p.texts] 26)) ((w.alloc (.cells #[.string p.root,.slice pa p.props.length pc,.slice fa p.au.length fc,.slice aa p.ats.length ac,.bool p.aO,.bool p.texts] 26)).alloc (.cells #[.string ⟨#[]⟩,.slice none 0 0,.slice none 0 0,.slice none 0 0,.bool false,.bool false] 51))):=(Below.refl _ _).alloc nl _
 have Q1:Hid (Qa ((w.alloc (.cells #[.string p.root,.slice pa p.props.length pc,.slice fa p.au.length fc,.slice aa p.ats.length ac,.bool p.aO,.bool p.texts] 26)).alloc (.cells #[.string ⟨#[]⟩,.slice none 0 0,.slice none 0 0,.slice none 0 0,.bool false,.bool false] 51)) w.heap.size (.string p.root) (.slice pa p.props.length pc) (.slice fa p.au.length fc) (.slice aa p.ats.length ac) (.bool p.aO) (.bool p.texts)):=Q0.o.below X1.o Q0.o.lt;have UR:Hid (iO B ((w.alloc (.cells #[.string p.root,.slice pa p.props.length pc,.slice fa p.au.length fc,.slice aa p.ats.length ac,.bool p.aO,.bool p.texts] 26)).alloc (.cells #[.string ⟨#[]⟩,.slice none 0 0,.slice none 0 0,.slice none 0 0,.bool false,.bool false] 51)) p (.slice pa p.props.length pc) (.slice fa p.au.length fc) (.slice aa p.ats.length ac)):=Ot.o.below X1.o Ot.o.lt
 have R1:Hid (Q6 ((w.alloc (.cells #[.string p.root,.slice pa p.props.length pc,.slice fa p.au.length fc,.slice aa p.ats.length ac,.bool p.aO,.bool p.texts] 26)).alloc (.cells #[.string ⟨#[]⟩,.slice none 0 0,.slice none 0 0,.slice none 0 0,.bool false,.bool false] 51)) (w.heap.size+1) (.string ⟨#[]⟩) (.slice none 0 0) (.slice none 0 0) (.slice none 0 0) (.bool false) (.bool false)):=by have:=Q6.new (w.alloc (.cells #[.string p.root,.slice pa p.props.length pc,.slice fa p.au.length fc,.slice aa p.ats.length ac,.bool p.aO,.bool p.texts] 26)) (.string ⟨#[]⟩) (.slice none 0 0) (.slice none 0 0) (.slice none 0 0) (.bool false) (.bool false);rw[show(w.alloc (.cells #[.string p.root,.slice pa p.props.length pc,.slice fa p.au.length fc,.slice aa p.ats.length ac,.bool p.aO,.bool p.texts] 26)).heap.size=w.heap.size+1 by simp]at this;exact this
 clear h Q0 Ot X1;unfold dD;go_in;go_upto_region 1 with fail
 generalize(w.alloc (.cells #[.string p.root,.slice pa p.props.length pc,.slice fa p.au.length fc,.slice aa p.ats.length ac,.bool p.aO,.bool p.texts] 26)).alloc (.cells #[.string ⟨#[]⟩,.slice none 0 0,.slice none 0 0,.slice none 0 0,.bool false,.bool false] 51)=w1 at *;obtain⟨q0,q1,q2,q3,q4,q5⟩:=Q1.o.cs;have hs1:=B1.o.size;have HC:=PD B p _ _ _ w1 UR.o hr;unfold dD at HC;obtain⟨z,Hz⟩:∃z,Hid (kS p=z):=⟨_,hid rfl⟩;rw[Hz.o]at HC;have Ib:Hid (Calls prog 49 #[.agg #[.string p.root,.slice pa p.props.length pc,.slice fa p.au.length fc,.slice aa p.ats.length ac,.bool p.aO,.bool p.texts]] w1 fun e w'=>e=.returned (.bool z)/\Below w1.heap.size w1 w'):=HC;clear HC UR;go_wp2_with fail;refine Ib.o.mono ?_;rintro e w2 ⟨rfl,hb2⟩;have B2:Hid (Below w.heap.size w w2):=B1.o.trans (hb2.mono hs1)
 have R2:Hid (Q6 w2 (w.heap.size+1) (.string ⟨#[]⟩) (.slice none 0 0) (.slice none 0 0) (.slice none 0 0) (.bool false) (.bool false)):=R1.o.below hb2 R1.o.lt;have Q2:Hid (Qa w2 w.heap.size (.string p.root) (.slice pa p.props.length pc) (.slice fa p.au.length fc) (.slice aa p.ats.length ac) (.bool p.aO) (.bool p.texts)):=Q1.o.below hb2 Q1.o.lt;clear hb2 Ib q0 q1 q2 q3 q4 q5 Q1 R1;obtain⟨q0,q1,q2,q3,q4,q5⟩:=Q2.o.cs;obtain⟨r0,r1,r2,r3,r4,r5⟩:=R2.o.cs;have z0:=R2.o.fz 0;have z1:=R2.o.fz 1;have z2:=R2.o.fz 2;have z3:=R2.o.fz 3;have z4:=R2.o.fz 4;have z5:=R2.o.fz 5;cases z
 .go_wp2_with fail;refine bodyPost_ret (v:=.tuple #[.agg #[.string ⟨#[]⟩,.slice none 0 0,.slice none 0 0,.slice none 0 0,.bool false,.bool false],.bool false]) (by simp[results,Tryz.results22,go_sem,r0,r1,r2,r3,r4,r5]) rfl ?_;refine⟨⟨_,by rw[Hz.o],(by rw[Hz.o];intro h;cases h),fun _=>rfl⟩,?_⟩;exact bH B2.o oo _ _ _ _ _ _
 .go_wp2_with fail;refine bodyPost_ret (v:=.tuple #[.agg #[.string p.root,.slice pa p.props.length pc,.slice fa p.au.length fc,.slice aa p.ats.length ac,.bool p.aO,.bool p.texts],.bool true]) (by simp[results,Tryz.results22,go_sem,r0,r1,r2,r3,r4,r5]) rfl ?_;refine⟨⟨_,by rw[Hz.o],fun _=>rfl,by rw[Hz.o];intro h;cases h⟩,?_⟩;exact bH B2.o oo _ _ _ _ _ _
end
section
def BI:ByteArray:=⟨#[115,112,97,114,101]⟩
def qo(b:Nat)(w:World)(u:Value)(zs:List ByteArray):Prop:=∃g cap,u=.slice (some ⟨g,0,none⟩) zs.length cap/\zs.length+1<=cap/\(b<=g/\g<w.heap.size)/\∀j x,(zs++[BI])[j]?=some x->w.cell? ⟨g,j,none⟩=some (.string x)
theorem qo.below{b:Nat}{w w':World}{u:Value}{zs:List ByteArray}(h:qo b w u zs)(hb:Below w.heap.size w w'):qo b w' u zs:=by obtain⟨g,cap,h1,h2,h3,h4⟩:=h;exact⟨g,cap,h1,h2,⟨h3.1,Nat.lt_of_lt_of_le h3.2 hb.size⟩,fun j x hx=>by rw[hb.cell (p:=⟨g,_,none⟩) h3.2];exact h4 j x hx⟩
theorem qo.set{b q o:Nat}{w:World}{u:Value}{zs:List ByteArray}(h:qo b w u zs)(hq:q<b)(y:Value):qo b (w.setCell ⟨q,o,none⟩ y) u zs:=by obtain⟨g,cap,h1,h2,h3,h4⟩:=h;refine⟨g,cap,h1,h2,⟨h3.1,by simp[World.setCell];exact h3.2⟩,fun j x hx=>?_⟩;rw[World.cell?_of_block (w:=w) (a:=⟨g,j,none⟩) (Below.heap_setCell _ _ _ _ (by show g≠q;omega))];exact h4 j x hx
theorem qo.mono{b b':Nat}{w:World}{u:Value}{zs:List ByteArray}(h:qo b w u zs)(hb:b'<=b):qo b' w u zs:=by obtain⟨g,cap,h1,h2,h3,h4⟩:=h;exact⟨g,cap,h1,h2,⟨oo,h3.2⟩,h4⟩
theorem Fg{S:Nat->Prop}{w:World}{g:Nat}(hS:S g):∀(l:List ByteArray) (o:Nat) (_:∀x∈l,x.size<=4194304) (_:∀j x,l[j]?=some x->w.cell? ⟨g,o+j,none⟩=some (.string x)),LG iI 1 S w l g o
 |[],_,_,_=>by simp[LG]
 |x::r,o,hz,hc=>⟨⟨hS,[.string x],⟨rfl,hz x (by simp)⟩,fun j u hu=>by
   match j,hu with
   |0,hu=>cases hu;exact hc 0 x rfl
   |j+1,hu=>simp at hu⟩,Fg hS r (o+1) (fun y hy=>hz y (by simp[hy])) fun j y hy=>by rw[show o+1+j=o+(j+1) by omega];exact hc (j+1) y (by simpa using hy)⟩
theorem qo.sg{b:Nat}{w:World}{u:Value}{zs:List ByteArray}(h:qo b w u zs)(hl:zs.length<=2097152)(hz:∀x∈zs,x.size<=4194304):SG iI 1 (fun b=>b<w.heap.size) w u zs:=by obtain⟨g,cap,h1,h2,h3,h4⟩:=h;refine⟨_,cap,h1,⟨oo,hl⟩,fun _=>⟨g,0,rfl,Fg (S:=fun b=>b<w.heap.size) h3.2 zs 0 hz fun j x hx=>?_⟩⟩;rw[Nat.zero_add];refine h4 j x ?_;rw[List.getElem?_append_left (List.getElem?_eq_some_iff.1 hx).1];exact hx
theorem SG.sizes{S:Nat->Prop}{w:World}{v:Value}{zs:List ByteArray}(h:SG iI 1 S w v zs):∀x∈zs,x.size<=4194304:=fun x hx=>by obtain⟨a,cap,rfl⟩:=h.form;obtain⟨g,o,rfl,hL,_⟩:=h.here (by rintro rfl;simp at hx);obtain⟨i,hi,rfl⟩:=List.getElem_of_mem hx;exact(hL.str (i:=i) hi).2.2
theorem ML(g n m cap:Nat)(hm:m<=cap)(W:World):(Instr.slice 22 (.slice (some ⟨g,0,none⟩) n cap) none (some (.int .i64 (m:Int))) none).run prog W=.ok (.slice (some ⟨g,0,none⟩) m cap) W:=by
 rw[run_slice_h (P:=prog) W 22 (some ⟨g,0,none⟩) n cap Tryz.underlying22 .i64 m oo oo];obtain⟨iT,h1,_,h3,_⟩:=jV;have e:prog.elem 22=9:=by kernel_rfl
 by_cases h0:cap=0
 .simp[sizeOf,typeInfo,e,h1,h3,sliced,Result.andThen,h0]
 .have h0':¬0=cap:=fun q=>h0 q.symm;simp[sizeOf,typeInfo,e,h1,h3,sliced,Result.andThen,h0];simp[Addr.add]
theorem JY(W:World)(n c:Nat):(binOp .eql 22 (.slice none n c) (.slice none 0 0)).run prog W=.ok (.bool true) W:=rfl
theorem MN(W:World)(ad:Addr)(n c:Nat):(binOp .eql 22 (.slice (some ad) n c) (.slice none 0 0)).run prog W=.ok (.bool false) W:=rfl
theorem PE(B:Nat)(zs:List ByteArray)(a:Option Addr)(cap:Nat)(w:World)(h:SG iI 1 (fun b=>b<B) w (.slice a zs.length cap) zs):
  Calls prog 9 #[.slice a zs.length cap] w fun e w'=>∃u,e=.returned u/\((a=none/\u=.slice none 0 0)\/(a≠none/\qo w.heap.size w' u zs))/\Below w.heap.size w w':=by
 have hl:=h.len;have HS:Hid (SG iI 1 (fun b=>b<B) w (.slice a zs.length cap) zs):=h;clear h;obtain⟨iS,uh⟩:=jV;have HI:Hid (prog.info? 9=some iS/\iS.zero=some (.string ⟨#[]⟩)/\iS.size=1/\iS.bytes=16):=uh;clear uh;cases a with
 |none=>have he:=fun W=>JY W zs.length cap;go_in;go_wp2_with fail;go_ret;exact⟨_,rfl,.inl ⟨by simp,rfl⟩,Below.refl _ _⟩
 |some ad=>
  have HC:Hid (∀j u,(zs.map Value.string)[j]?=some u->w.cell? (ad.add j)=some u):=fun j u hu=>by
   cases zs with
   |nil=>simp at hu
   |cons z r=>
    obtain⟨g,o,e,hL,_⟩:=HS.o.here (by simp);cases e;have hj:j<(z::r).length:=by have:=(List.getElem?_eq_some_iff.1 hu).1;simpa using this
    have h1:=(hL.str (i:=j) hj).2.1;rw[List.getElem?_map,List.getElem?_eq_getElem hj]at hu;cases hu;rw[Addr.add_lit];exact h1
  have he:=fun W=>MN W ad zs.length cap;go_in;go_wp2_with(at_builtin;go_must(refine wpList_append_own_at _ rfl _ _ 22 rfl w.heap.size 9 iS (.string ⟨#[]⟩) 1 16 Tryz.underlying22 HI.o.1 HI.o.2.1 HI.o.2.2.1 HI.o.2.2.2 rfl oo (.slice none 0 0) 0 [] rfl (World.ownsRow_nil _ _ _ _) ad zs.length cap (zs.map Value.string) rfl (by simp) HC.o (by simp[Value.oneCell']) (by unfold maxLen;omega) oo nl ?_));intro v4 w4 hown4 bG _ _;have B4:Hid (Below w.heap.size w w4):=(Below.refl _ _).grown bG nl (fun k hk=>by cases hk);have o4:w4.ownsRow w.heap.size 9 1 v4 zs.length (zs.map Value.string):=by simpa using hown4
  have O4:Hid (w4.ownsRow w.heap.size 9 1 v4 zs.length (zs.map Value.string)):=o4;clear o4;have hs4:=B4.o.size;obtain⟨va,vc,rfl⟩:=iL O4.o;clear hown4 bG;go_wp2_with(at_builtin;go_must(refine wpList_append_own_at _ rfl _ _ 22 rfl w.heap.size 9 iS (.string ⟨#[]⟩) 1 16 Tryz.underlying22 HI.o.1 HI.o.2.1 HI.o.2.2.1 HI.o.2.2.2 rfl oo (.slice va zs.length vc) zs.length (zs.map Value.string) rfl (O4.o.alloc _) ⟨w4.heap.size,0,none⟩ 1 1 [.string ⟨#[115,112,97,114,101]⟩] rfl rfl (cell_one_new _ _ _) (bf _) (by unfold maxLen;omega) oo (by simp;omega) ?_));intro v6 w6 hown6 jO _ _;have B6:Hid (Below w.heap.size w w6):=(B4.o.alloc hs4 _).grown jO (by simp;omega) (fun k hk=>(O4.o.lt k hk).1);obtain⟨g,gc,rfl⟩:=vW hown6;have hgc:zs.length+1<=gc:=by
   rcases hown6.2 with⟨e,_⟩|⟨g',cap',cur,e,_,_,hnc,_⟩
   .cases e
   .cases e;exact hnc
  have hs:=ML g (zs.length+1) zs.length gc oo;have YB:Hid (qo w.heap.size w6 (.slice (some ⟨g,0,none⟩) zs.length gc) zs):=⟨g,gc,rfl,hgc,hown6.lt g rfl,fun j x hx=>by
   have:=hown6.cells (g:=g) rfl j (.string x) (by
    have e:zs.map Value.string++[Value.string ⟨#[115,112,97,114,101]⟩]=(zs++[BI]).map Value.string:=by simp[BI]
    rw[e,List.getElem?_map,hx];rfl)
   rwa[Addr.add_lit,Nat.zero_add]at this⟩
  clear hown6 jO;go_wp2_with fail;go_ret;exact⟨_,rfl,.inr ⟨by simp,YB.o⟩,B6.o⟩
theorem yQ(B b:Nat)(zs:List ByteArray)(a:Option Addr)(cap:Nat)(u:Value)(w:World)(h:SG iI 1 (fun b=>b<B) w (.slice a zs.length cap) zs)(hu:(a=none/\u=.slice none 0 0)\/(a≠none/\qo b w u zs)):
  Calls prog 11 #[u,.slice a zs.length cap] w fun e w'=>e=.returned (.bool true)/\Below w.heap.size w w':=by
 have hl:=h.len;have HS:Hid (SG iI 1 (fun b=>b<B) w (.slice a zs.length cap) zs):=h;clear h;rcases hu with⟨rfl,rfl⟩|⟨ha,hsp⟩
 .have he:=fun W=>JY W zs.length cap;have he2:=fun W=>JY W 0 0;go_in;go_wp2_with fail;go_ret;exact⟨rfl,Below.refl _ _⟩
 .obtain⟨g,gc,rfl,hgc,⟨_,hgl⟩,hcs⟩:=hsp;have HCS:Hid (∀j x,(zs++[BI])[j]?=some x->w.cell? ⟨g,j,none⟩=some (.string x)):=hcs;have cl:w.cell? ⟨g,zs.length,none⟩=some (.string ⟨#[115,112,97,114,101]⟩):=hcs zs.length _ (by simp[BI]);have hs:=ML g zs.length (zs.length+1) gc oo;clear hcs;cases a with
  |none=>exact absurd rfl ha
  |some ad=>
   clear ha;have hx1:(zs.length:Int)<(zs.length:Int)+1:=oo;have he:=fun W=>MN W ⟨g,0,none⟩ zs.length gc;go_in;go_wp2_with fail;go_loopg[6,7] zs.length (fun gg v6 v7 wr=>∃k:Nat,k+gg=zs.length/\v6=.bool true/\v7=.int .i64 (k:Int)/\Aside (Below w.heap.size w wr));case atStart=>exact⟨0,oo,rfl,rfl,Below.refl _ _⟩
   case round=>
    obtain⟨k,hk,rfl,rfl,hA⟩:=hrel;have HB:Hid (Below w.heap.size w wr):=hA.o;clear hA;by_cases hlt:k<zs.length
    .have h1:(k:Int)<(zs.length:Int):=oo;have h1':(k:Int)<(zs.length:Int)+1:=oo;obtain⟨g2,o2,e,hL,_⟩:=HS.o.here (by rintro rfl;simp at hlt);cases e;obtain⟨hg2,c2,_⟩:=hL.str (i:=k) hlt;have hk1:(zs++[BI])[k]?=some zs[k]:=by rw[List.getElem?_append_left hlt,List.getElem?_eq_getElem hlt]
     have d1:wr.cell? ⟨g,k,none⟩=some (.string zs[k]):=by rw[HB.o.cell (p:=⟨g,_,none⟩) hgl];exact HCS.o k _ hk1
     have d2:wr.cell? ⟨g2,o2+k,none⟩=some (.string zs[k]):=by rw[HB.o.cell (p:=⟨g2,_,none⟩) (World.block_lt_of_cell? w _ c2)];exact c2
     generalize zs[k]=y at *;have hyy:(y.toList==y.toList)=true:=by simp
     clear hL c2 hk1;go_wp2_with fail;go_quiet (fail)
     go_wp2_with fail;go_roundg(zs.length-(k+1));case measure=>omega
     case rel=>exact⟨k+1,oo,rfl,by congr 1,HB.o.trans ⟨rfl,rfl,rfl,Nat.le_refl _,fun _ _=>rfl⟩⟩
    .have h1:(zs.length:Int)<=(k:Int):=oo;go_wp2_with fail;go_ret;exact⟨rfl,HB.o⟩
def lC(b:Nat)(a:Option Addr)(w:World)(u:Value)(zs:List ByteArray):Prop:=(a=none/\u=.slice none 0 0)\/(a≠none/\qo b w u zs)
section
variable {b:Nat} {a:Option Addr} {w w':World} {u:Value} {zs:List ByteArray}
theorem lC.below(h:lC b a w u zs)(hb:Below w.heap.size w w'):lC b a w' u zs:=h.imp id fun h=>⟨h.1,h.2.below hb⟩
theorem lC.set{q o:Nat}(h:lC b a w u zs)(hq:q<b)(y:Value):lC b a (w.setCell ⟨q,o,none⟩ y) u zs:=h.imp id fun h=>⟨h.1,h.2.set hq y⟩
theorem lC.mono{b':Nat}(h:lC b a w u zs)(hb:b'<=b):lC b' a w u zs:=h.imp id fun h=>⟨h.1,h.2.mono hb⟩
theorem lC.sg{S:Nat->Prop}{w0:World}{cap:Nat}(h:lC b a w u zs)(h0:SG iI 1 S w0 (.slice a zs.length cap) zs):SG iI 1 (fun b=>b<w.heap.size) w u zs:=by
 rcases h with⟨rfl,rfl⟩|⟨_,h⟩
 .have:zs=[]:=by
   cases zs with
   |nil=>rfl
   |cons z r=>obtain⟨g,o,e,_⟩:=h0.here (by simp);cases e
  subst this;exact SG.iG _ _ _ _ _ _
 .exact h.sg h0.len h0.sizes
end
end
theorem PG(s:ByteArray):dU s=(allB (fun c=>iM c||c==45) s&&(decide (1<=s.size)&&decide (s.size<=30))):=by unfold dU;rw[Bool.and_assoc];rfl
theorem Zw(s:ByteArray)(w:World)(hs:s.size<=4194304):Calls prog 56 #[.string s,.int .i64 30] w fun e w'=>e=.returned (.bool (dU s))/\w'=w:=by
 have HP:Hid (dU s=(allB (fun c=>iM c||c==45) s&&(decide (1<=s.size)&&decide (s.size<=30)))):=PG s;go_in;go_wp2_with fail;go_loopg[5] s.size (fun gg v5 wr=>∃k:Nat,k+gg=s.size/\v5=.int .i64 (k:Int)/\Aside (oM (fun c=>iM c||c==45) s k=true/\wr=w));case atStart=>exact⟨0,oo,rfl,rfl,rfl⟩
 case round=>
  obtain⟨k,hk,rfl,hA⟩:=hrel;have HA:Hid (oM (fun c=>iM c||c==45) s k=true):=hA.o.1;obtain rfl:=hA.o.2;clear hA;by_cases hlt:k<s.size
  .have h1:(k:Int)<(s.size:Int):=oo;have hix:=aV s k hlt;rw[qg hlt,xG hlt]at hix;obtain⟨c,Hc⟩:∃c,Hid (s[k]=c):=⟨_,hid rfl⟩;rw[Hc.o]at hix;have hc:=c.toNat_lt;have Wx:Hid (Yz (c.toNat:Int)=true->oM (fun c=>iM c||c==45) s (k+1)=true):=fun h=>by
    rw[yG (fun c=>iM c||c==45) hlt,HA.o,Hc.o];show(iM c||c==45)=true;rw[<-Wn];exact h
   have UU:Hid (Yz (c.toNat:Int)=false->dU s=false):=fun h=>by rw[HP.o,vk (fun c=>iM c||c==45) hlt (by show(iM s[k]||s[k]==45)=false;rw[Hc.o,<-Wn];exact h)];rfl
   by_cases a1:(97:Int)<=(c.toNat:Int)
   .by_cases a2:(c.toNat:Int)<=122
    .have HV:Hid (oM (fun c=>iM c||c==45) s (k+1)=true):=Wx.o (by unfold Yz Rw;rw[decide_eq_true a1,decide_eq_true a2];rfl);clear Wx UU;go_wp2_with fail;go_roundg(gk-1);case measure=>omega
     case rel=>exact⟨k+1,oo,by congr 1,HV.o,rfl⟩
    .have b:((c.toNat:Int)==45)=false:=beq_eq_false_iff_ne.2 oo;have HV:Hid (dU s=false):=UU.o (by unfold Yz Rw;rw[decide_eq_false a2,b];simp);have a2':(122:Int)<(c.toNat:Int):=oo;have a2d:decide ((c.toNat:Int)<=122)=false:=decide_eq_false a2;clear Wx UU a2;go_wp2_with fail;go_ret;exact⟨aI HV.o.symm,rfl⟩
   .have a1':(c.toNat:Int)<97:=oo;cases b:((c.toNat:Int)==45)
    .have HV:Hid (dU s=false):=UU.o (by unfold Yz Rw;rw[decide_eq_false a1,b];rfl);clear Wx UU a1;go_wp2_with fail;go_ret;exact⟨aI HV.o.symm,rfl⟩
    .have HV:Hid (oM (fun c=>iM c||c==45) s (k+1)=true):=Wx.o (by unfold Yz;rw[b];simp);clear Wx UU a1;go_wp2_with fail;go_roundg(gk-1);case measure=>omega
     case rel=>exact⟨k+1,oo,by congr 1,HV.o,rfl⟩
  .have h1:(s.size:Int)<=(k:Int):=oo;have yj:Hid (dU s=(decide (1<=s.size)&&decide (s.size<=30))):=by
    show _=_;rw[HP.o,<-BG];have:k=s.size:=oo;rw[<-this,HA.o];rfl
   by_cases b1:1<=s.size
   .have c1:(1:Int)<=(s.size:Int):=oo;by_cases b2:s.size<=30
    .have c2:(s.size:Int)<=30:=oo;have HV:Hid (dU s=true):=by show _=_;rw[yj.o,decide_eq_true b1,decide_eq_true b2];rfl
     clear yj b1 b2;go_wp2_with fail;go_ret;exact⟨aI (by rw[HV.o]<;>(simp<;>omega)),rfl⟩
    .have c2:(30:Int)<(s.size:Int):=oo;have HV:Hid (dU s=false):=by show _=_;rw[yj.o,decide_eq_false b2];simp
     clear yj b1 b2;go_wp2_with fail;go_ret;exact⟨aI (by rw[HV.o]<;>(simp<;>omega)),rfl⟩
   .have c1:(s.size:Int)<1:=oo;have HV:Hid (dU s=false):=by show _=_;rw[yj.o,decide_eq_false b1];simp
    clear yj b1;go_wp2_with fail;go_ret;exact⟨aI HV.o.symm,rfl⟩
theorem Fh(S:Nat->Prop)(zs:List ByteArray)(v:Value)(x:ByteArray)(w:World)(h:SG iI 1 S w v zs):
  Calls prog 58 #[v,.string x] w fun e w'=>e=.returned (.bool (zs.contains x))/\w'=w:=by
 have hl:=h.len;have HS:Hid (SG iI 1 S w v zs):=h;have HC:Hid (zs.contains x=zs.any (fun z=>decide (x=z))):=Ae zs x;obtain⟨a,cap,rfl⟩:=h.form;clear h;go_in;go_wp2_with fail;go_loopg[5] zs.length (fun gg v5 wr=>∃k:Nat,k+gg=zs.length/\v5=.int .i64 (k:Int)/\Aside (zs.contains x=(zs.drop k).any (fun z=>decide (x=z))/\wr=w));case atStart=>exact⟨0,oo,rfl,by rw[HC.o];simp,rfl⟩
 case round=>
  obtain⟨k,hk,rfl,hA⟩:=hrel;have HA:Hid (zs.contains x=(zs.drop k).any (fun z=>decide (x=z))):=hA.o.1;obtain rfl:=hA.o.2;clear hA;by_cases hlt:k<zs.length
  .have h1:(k:Int)<(zs.length:Int):=oo;obtain⟨g',o,rfl,hL,hcap⟩:=HS.o.here (by rintro rfl;simp at hlt);obtain⟨_,c0,hxs⟩:=hL.str (i:=k) hlt;have HA2:Hid (zs.contains x=(decide (x=zs[k])||(zs.drop (k+1)).any (fun z=>decide (x=z)))):=by show _=_;rw[HA.o,List.drop_eq_getElem_cons hlt];rfl
   generalize zs[k]=y at *;clear hL;have HQ:Hid ((y.toList==x.toList)=decide (x=y)):=by show _=_;rw[bytes_beq,Bool.eq_iff_iff];simp[eq_comm]
   cases hq:(y.toList==x.toList)
   .have HV:Hid (zs.contains x=(zs.drop (k+1)).any (fun z=>decide (x=z))):=by show _=_;rw[HA2.o,<-HQ.o,hq];rfl
    clear HA2 HQ;go_wp2_with fail;go_roundg(gk-1);case measure=>omega
    case rel=>exact⟨k+1,oo,by congr 1,HV.o,rfl⟩
   .have HV:Hid (zs.contains x=true):=by show _=_;rw[HA2.o,<-HQ.o,hq];rfl
    clear HA2 HQ;go_wp2_with fail;go_ret;exact⟨aI HV.o.symm,rfl⟩
  .have h1:(zs.length:Int)<=(k:Int):=oo;have HV:Hid (zs.contains x=false):=by show _=_;rw[HA.o,List.drop_of_length_le oo];rfl
   go_wp2_with fail;go_ret;exact⟨aI HV.o.symm,rfl⟩
end Go.Proofs.YtlliliddljkbfaaGreatDoor
