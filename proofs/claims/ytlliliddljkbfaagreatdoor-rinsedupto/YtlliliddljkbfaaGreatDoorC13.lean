import Derived.Test.YtlliliddljkbfaaGreatDoorC10
import Derived.Test.YtlliliddljkbfaaGreatDoorC12
namespace Go.Proofs.YtlliliddljkbfaaGreatDoor
set_option maxHeartbeats 64000000
set_option maxRecDepth 100000
open Go.Proofs.Tryz (prog)
open Go.RowKit Sp
section
attribute [local go_sem] dH dI bQ bT
theorem last_at{α:Type}{l:List α}(h:0<l.length):l.getLast?=some (l[l.length-1]'oo):=by rw[List.getLast?_eq_getElem?,List.getElem?_eq_getElem oo]
theorem dropLast_take{α:Type}(l:List α):l.dropLast=l.take (l.length-1):=List.dropLast_eq_take
theorem wB{v:List Nd}(h:0<v.length)(hw:l9 (v[v.length-1]'oo) gq=false):iy v=(v,false):=by unfold iy;rw[last_at h];simp only;rw[if_neg (by rw[hw];simp)]
theorem uS{v:List Nd}(h:0<v.length)(hw:l9 (v[v.length-1]'oo) gq=true)(hb:bare (v.take (v.length-1))=[]):iy v=(v,false):=by unfold iy;rw[last_at h];simp only;rw[if_pos hw,dropLast_take,hb];rfl
theorem CJ{v b:List Nd}(h:0<v.length)(hw:l9 (v[v.length-1]'oo) gq=true)(hb:bare (v.take (v.length-1))=b)(h2:0<b.length):iy v=if dY (b[b.length-1]'oo) (b1 33)=true then(bare (b.take (b.length-1)),true) else(v,false):=by unfold iy;rw[last_at h];simp only;rw[if_pos hw,dropLast_take,hb,last_at h2,dropLast_take]
theorem Ew(B:Nat)(l:List Nd)(v:Value)(w:World)(h:Sl (fun b=>b<B) w v l)(hB:B<=w.heap.size):
  Calls prog 264 #[v] w fun e w'=>∃v',e=.returned (.tuple #[v',.bool (iy l).2])/\Sl (fun b=>b<B) w' v' (iy l).1/\Below w.heap.size w w':=by
 have Cc:=h.len;have HS:Hid (Sl (fun b=>b<B) w v l):=h;obtain⟨a,cap,rfl⟩:=h.form;clear h;by_cases hz:l.length=0
 .obtain rfl:l=[]:=List.eq_nil_of_length_eq_zero hz;clear hz;go_in;go_wp2_with fail;go_ret2
  exact⟨_,rfl,HS.o,Below.refl _ _⟩
 .have hp:0<l.length:=oo;obtain⟨g,o,rfl,hL,hcap⟩:=HS.o.here (by rintro rfl;simp at hp);obtain⟨kv,hN⟩:=hL.node (i:=l.length-1) oo;obtain⟨n,hn⟩:∃n,n=l[l.length-1]'oo:=⟨_,rfl⟩;rw[<-hn]at hN;have HN:Hid (l9 (l[l.length-1]'oo) gq=l9 (.mk n.t []) gq):=by show _=_;rw[<-hn];rfl
  obtain⟨ka,kc,rfl⟩:=hN.k.form;have d0:=hN.c0;have d1:=hN.c1;have d2:=hN.c2;have d3:=hN.c3;have hwd:=hN.ok.word;clear hN hL hn;obtain⟨m,Hm⟩:∃m,Hid (l.length-1=m):=⟨_,hid rfl⟩;have hm:(l.length:Int)-1=(m:Int):=by have:=Hm.o;omega
  have hwm:IntKind.i64.wrap ((l.length:Int)-1)=(m:Int):=by rw[IntKind.wrap_i64];omega
  have hml:(m:Int)<(l.length:Int):=oo;have hmn:m<l.length:=oo;rw[Hm.o]at d0 d1 d2 d3;obtain⟨z,Hz⟩:∃z,Hid (l9 (.mk n.t []) gq=z):=⟨_,hid rfl⟩;have HW:=VI n.t (.slice ka n.kids.length kc) gq w hwd;rw[Hz.o]at HW;have HW':Hid (Calls prog 210 #[dM n.t (.slice ka n.kids.length kc),.string gq] w fun e w'=>e=.returned (.bool z)/\Below w.heap.size w w'):=HW;clear HW;have hm0:(0:Int)<=(m:Int):=oo;go_in;go_wp2_with fail;refine HW'.o.mono ?_;rintro e w1 ⟨rfl,hb1⟩;have B1:Hid (Below w.heap.size w w1):=hb1;have hs1:=hb1.size;clear hb1 HW' d0 d1 d2 d3;cases z
  .have HV:Hid (iy l=(l,false)):=wB hp (by rw[HN.o];exact Hz.o);go_wp2_with fail;go_ret2
   exact⟨_,by rw[HV.o];rfl,by rw[HV.o];exact HS.o.below B1.o hB,B1.o⟩
  .have S1:=HS.o.below B1.o hB;obtain⟨hr1,hS1⟩:=S1.aa2 m oo;have HST:Hid (Sl (fun b=>b<B) w1 (.slice (some ⟨g,o,none⟩) m cap) (l.take m)):=hS1;clear hS1 S1;have hlt:(l.take m).length=m:=by rw[List.length_take];omega
   go_wp2_with fail;refine(uP B (l.take m) _ w1 HST.o).mono ?_;obtain⟨b,Hb⟩:∃b,Hid (bare (l.take m)=b):=⟨_,hid rfl⟩;rw[Hb.o];rintro e w2 ⟨v2,rfl,hS2,hw2⟩;subst hw2;have HS2:Hid (Sl (fun b=>b<B) w2 v2 b):=hS2;have hl2:=hS2.len;obtain⟨a2,c2,rfl⟩:=hS2.form;clear hS2 hr1 hlt;by_cases hz2:b.length=0
   .have HV:Hid (iy l=(l,false)):=uS hp (by rw[HN.o];exact Hz.o) (by rw[Hm.o,Hb.o];exact List.eq_nil_of_length_eq_zero hz2);have hq:(b.length:Int)=0:=oo;have hqw:IntKind.i64.wrap ((b.length:Int)-1) = -1:=by rw[IntKind.wrap_i64];omega
    clear hz2;go_wp2_with fail;go_ret2
    exact⟨_,by rw[HV.o];rfl,by rw[HV.o];exact HS.o.below B1.o hB,B1.o⟩
   .have hp2:0<b.length:=oo;obtain⟨g2,o2,rfl,hL2,hcap2⟩:=HS2.o.here (by rintro rfl;simp at hp2);obtain⟨kv2,G6⟩:=hL2.node (i:=b.length-1) oo;obtain⟨n2,hn2⟩:∃n,n=b[b.length-1]'oo:=⟨_,rfl⟩;rw[<-hn2]at G6;have HN2:Hid (dY (b[b.length-1]'oo) (b1 33)=ay n2.t (b1 33)):=by show _=_;rw[<-hn2];rfl
    have yj:Hid (iy l=if dY (b[b.length-1]'oo) (b1 33)=true then(bare (b.take (b.length-1)),true) else(l,false)):=CJ hp (by rw[HN.o];exact Hz.o) (by rw[Hm.o];exact Hb.o) hp2;obtain⟨ka2,kc2,rfl⟩:=G6.k.form;have d0:=G6.c0;have d1:=G6.c1;have d2:=G6.c2;have d3:=G6.c3;clear G6 hL2 hn2;obtain⟨m2,Hm2⟩:∃m,Hid (b.length-1=m):=⟨_,hid rfl⟩;have hm2:(b.length:Int)-1=(m2:Int):=by have:=Hm2.o;omega
    have afh:IntKind.i64.wrap ((b.length:Int)-1)=(m2:Int):=by rw[IntKind.wrap_i64];omega
    have afi:(m2:Int)<(b.length:Int):=oo;have afj:m2<b.length:=oo;have afk:(0:Int)<=(m2:Int):=oo;rw[Hm2.o]at d0 d1 d2 d3;obtain⟨z2,KI⟩:∃z,Hid (ay n2.t (b1 33)=z):=⟨_,hid rfl⟩;go_wp2_with fail;refine(jU n2.t (.slice ka2 n2.kids.length kc2) (b1 33) _).mono ?_;rw[KI.o];rintro e w3 ⟨rfl,hb3⟩;have B3:Hid (Below w.heap.size w w3):=B1.o.trans (hb3.mono hs1);have Om:Hid (Sl (fun b=>b<B) w3 (.slice (some ⟨g2,o2,none⟩) b.length c2) b):=HS2.o.below hb3 oo;have hs3:=B3.o.size;clear hb3 d0 d1 d2 d3;cases z2
    .have HV:Hid (iy l=(l,false)):=by show _=_;rw[yj.o,HN2.o,KI.o];rfl
     go_wp2_with fail;go_ret2
     exact⟨_,by rw[HV.o];rfl,by rw[HV.o];exact HS.o.below B3.o hB,B3.o⟩
    .have HV:Hid (iy l=(bare (b.take m2),true)):=by show _=_;rw[yj.o,HN2.o,KI.o,Hm2.o];rfl
     obtain⟨hr3,hS3⟩:=Om.o.aa2 m2 oo;have ad9:Hid (Sl (fun b=>b<B) w3 (.slice (some ⟨g2,o2,none⟩) m2 c2) (b.take m2)):=hS3;clear hS3;go_wp2_with fail;refine(uP B (b.take m2) _ w3 ad9.o).mono ?_;rintro e w4 ⟨v4,rfl,hS4,hw4⟩;subst hw4;have HS4:Hid (Sl (fun b=>b<B) w4 v4 (bare (b.take m2))):=hS4;clear hS4;go_wp2_with fail;go_ret2
     exact⟨_,by rw[HV.o];rfl,by rw[HV.o];exact HS4.o,B3.o⟩
end
section
attribute [local go_sem] dH dI bQ bT
def Q3(T:TypeId)(w:World)(b:Nat)(x0 x1 x2:Value):Prop:=w.heap[b]?=some (.cells #[x0,x1,x2] T (0,0))
section
variable {T:TypeId} {w w':World} {b:Nat} {x0 x1 x2:Value}
theorem Q3.lt(h:Q3 T w b x0 x1 x2):b<w.heap.size:=(Array.getElem?_eq_some_iff.1 h).1
theorem Q3.cs(h:Q3 T w b x0 x1 x2):w.cell? ⟨b,0,none⟩=some x0/\w.cell? ⟨b,1,none⟩=some x1/\w.cell? ⟨b,2,none⟩=some x2:=by have h':w.heap[b]?=_:=h;refine⟨?_,?_,?_⟩<;>(unfold World.cell?;rw[h'];rfl)
theorem Q3.fz(h:Q3 T w b x0 x1 x2)(o:Nat):w.frozen? ⟨b,o,none⟩=false:=by have h':w.heap[b]?=_:=h;unfold World.frozen?;rw[h'];simp
theorem Q3.below(h:Q3 T w b x0 x1 x2)(hb:Below w.heap.size w w'):Q3 T w' b x0 x1 x2:=by show _=_;rw[hb.block b h.lt];exact h
theorem Q3.new(T:TypeId)(w:World)(x0 x1 x2:Value):Q3 T (w.alloc (.cells #[x0,x1,x2] T)) w.heap.size x0 x1 x2:=heap_alloc_new w _
end
def jr(w:World)(g:Nat)(a b c:Value):World:=((w.setCell ⟨g,0,none⟩ a).setCell ⟨g,1,none⟩ b).setCell ⟨g,2,none⟩ c
theorem gu{B g:Nat}{x w:World}(h:Below B x w)(hg:B<=g)(a b c:Value):Below B x (jr w g a b c):=((h.setCell hg _).setCell hg _).setCell hg _
theorem mV(w:World){g k:Nat}(h:k≠g)(a b c:Value):(jr w g a b c).heap[k]?=w.heap[k]?:=by unfold jr;rw[Below.heap_setCell _ _ _ _ h,Below.heap_setCell _ _ _ _ h,Below.heap_setCell _ _ _ _ h]
theorem Q3.put{T:TypeId}{w:World}{b:Nat}{x0 x1 x2:Value}(h:Q3 T w b x0 x1 x2)(y0 y1 y2:Value):Q3 T (jr w b y0 y1 y2) b y0 y1 y2:=by have h':w.heap[b]?=_:=h;show _=_;simp only[jr,World.setCell,Array.getElem?_modify,h'];simp
def dcP(B:Nat)(o:Option Dec)(w':World)(e:Ending):Prop:=
 match o with
 |none=>e=.returned (.tuple #[.agg #[.string ⟨#[]⟩,.slice none 0 0,.bool false],.bool false])
 |some d=>∃vv,e=.returned (.tuple #[.agg #[.string d.prop,vv,.bool d.imp],.bool true])/\Sl (fun b=>b<B) w' vv d.val/\d.prop.size<=4000000
theorem Ey(s:ByteArray):(small s).size=s.size:=by show(s.data.toList.map jF).toArray.size=s.data.size;rw[List.size_toArray,List.length_map,Array.length_toList]
theorem CO(p:ByteArray):(je p).size=p.size:=by
 unfold je;split
 .rfl
 .exact Ey p
theorem uT{n:Nd}{r:List Nd}(h:(n.t.kind==14)=false):dS (n::r)=none:=by unfold dS;simp only;rw[if_pos (by simpa using h)]
theorem CP{n:Nd}{r:List Nd}(h:(n.t.kind==14)=true)(hb:bare r=[]):dS (n::r)=none:=by unfold dS;simp only;rw[if_neg (by simpa using h),hb]
theorem CQ{n c:Nd}{r q:List Nd}(h:(n.t.kind==14)=true)(hb:bare r=c::q):dS (n::r)=if ay c.t (b1 58)=true then some ⟨je n.t.word,(iy (bare q)).1,(iy (bare q)).2⟩ else none:=by unfold dS;simp only;rw[if_neg (by simpa using h),hb];rfl
theorem zQ(B:Nat)(l:List Nd)(v:Value)(w:World)(h:Sl (fun b=>b<B) w v l)(hB:B<=w.heap.size):
  Calls prog 207 #[v] w fun e w'=>dcP B (dS l) w' e/\Below w.heap.size w w':=by
 have Cc:=h.len;have HS:Hid (Sl (fun b=>b<B) w v l):=h;obtain⟨a,cap,rfl⟩:=h.form;clear h;have R0:Hid (Q3 229 (w.alloc (.cells #[.string ⟨#[]⟩,.slice none 0 0,.bool false] 229)) w.heap.size (.string ⟨#[]⟩) (.slice none 0 0) (.bool false)):=Q3.new _ _ _ _ _;have B0:Hid (Below w.heap.size w (w.alloc (.cells #[.string ⟨#[]⟩,.slice none 0 0,.bool false] 229))):=(Below.refl _ _).alloc nl _;go_in;go_upto_region 1 with fail
 have hsz0:=B0.o.size;have hlt0:=R0.o.lt;generalize w.alloc (.cells #[.string ⟨#[]⟩,.slice none 0 0,.bool false] 229)=w0 at *;obtain⟨rb,mF⟩:∃rb,Hid (w.heap.size=rb):=⟨_,hid rfl⟩;rw[mF.o]at B0 R0 hB hlt0 hsz0⊢;have S0:Hid (Sl (fun b=>b<B) w0 (.slice a l.length cap) l):=HS.o.below B0.o hB;clear HS;cases l with
 |nil=>have HV:Hid (dS []=none):=rfl;have z0:=R0.o.fz 0;have z1:=R0.o.fz 1;have z2:=R0.o.fz 2;obtain⟨q0,q1,q2⟩:=R0.o.cs;go_wp2_with fail;refine bodyPost_ret (v:=.tuple #[.agg #[.string ⟨#[]⟩,.slice none 0 0,.bool false],.bool false]) (by simp[results,Tryz.results207,go_sem,q0,q1,q2]) rfl ?_;exact⟨by rw[HV.o];rfl,by rw[mF.o];exact gu B0.o nl _ _ _⟩
 |cons n r=>
  obtain⟨g,o,nv,cap',hcv,hN,hcap⟩:=S0.o.head;injection hcv with hcv1 _ hcv2
  subst hcv1 hcv2;have hgB:g<B:=hN.s;have c0:=hN.c0;have Gy:Hid (∀wx,Below w0.heap.size w0 wx->wx.cell? ⟨g,o+1,none⟩=some (.string n.t.word)):=fun wx hb=>by rw[hb.cell (p:=⟨g,_,none⟩) (show g<w0.heap.size by omega)];exact hN.c1
  have hwd:=hN.ok.word;clear hN;have h1:¬((r.length+1:Nat):Int)=0:=oo;have h1b:(((r.length+1:Nat):Int)==0)=false:=by simpa using h1
  have h1c:((r.length:Int)+1==0)=false:=by simp;omega
  cases hk:(n.t.kind==14)
  .have HV:Hid (dS (n::r)=none):=uT hk;have hkn:(n.t.kind != 14)=true:=by rw[bne,hk];rfl
   have z0:=R0.o.fz 0;have z1:=R0.o.fz 1;have z2:=R0.o.fz 2;obtain⟨q0,q1,q2⟩:=R0.o.cs;go_wp2_with fail;refine bodyPost_ret (v:=.tuple #[.agg #[.string ⟨#[]⟩,.slice none 0 0,.bool false],.bool false]) (by simp[results,Tryz.results207,go_sem,q0,q1,q2]) rfl ?_;exact⟨by rw[HV.o];rfl,by rw[mF.o];exact gu B0.o nl _ _ _⟩
  .have hkn:(n.t.kind != 14)=false:=by rw[bne,hk];rfl
   obtain⟨a1,hr1,hS1⟩:=S0.o.IC;have qQ:Hid (Sl (fun b=>b<B) w0 (.slice a1 r.length (cap-1)) r):=hS1;clear hS1;go_wp2_with fail;refine(uP B r _ w0 qQ.o).mono ?_;obtain⟨b,Hb⟩:∃b,Hid (bare r=b):=⟨_,hid rfl⟩;rw[Hb.o];rintro e w2 ⟨v2,rfl,hS2,hw2⟩;subst hw2;have HS2:Hid (Sl (fun b=>b<B) w2 v2 b):=hS2;obtain⟨a2,c2,rfl⟩:=hS2.form;have hl2:=hS2.len;clear hS2 hr1;cases b with
   |nil=>have HV:Hid (dS (n::r)=none):=CP hk Hb.o;have z0:=R0.o.fz 0;have z1:=R0.o.fz 1;have z2:=R0.o.fz 2;obtain⟨q0,q1,q2⟩:=R0.o.cs;go_wp2_with fail;refine bodyPost_ret (v:=.tuple #[.agg #[.string ⟨#[]⟩,.slice none 0 0,.bool false],.bool false]) (by simp[results,Tryz.results207,go_sem,q0,q1,q2]) rfl ?_;exact⟨by rw[HV.o];rfl,by rw[mF.o];exact gu B0.o nl _ _ _⟩
   |cons c q=>
    have yj:Hid (dS (n::r)=if ay c.t (b1 58)=true then some ⟨je n.t.word,(iy (bare q)).1,(iy (bare q)).2⟩ else none):=CQ hk Hb.o;obtain⟨g2,o2,kv2,cap2,hcv,G6,hcap2⟩:=HS2.o.head;injection hcv with hcv1 _ hcv2
    subst hcv1 hcv2;obtain⟨ka2,kc2,rfl⟩:=G6.k.form;have d0:=G6.c0;have d1:=G6.c1;have d2:=G6.c2;have d3:=G6.c3;clear G6;have h2c:((q.length:Int)+1==0)=false:=by simp;omega
    obtain⟨z2,KI⟩:∃z,Hid (ay c.t (b1 58)=z):=⟨_,hid rfl⟩;rw[KI.o]at yj;go_wp2_with fail;refine(jU c.t (.slice ka2 c.kids.length kc2) (b1 58) _).mono ?_;rw[KI.o];rintro e w3 ⟨rfl,hb3⟩;have X3:Hid (Below w2.heap.size w2 w3):=hb3;have B3:Hid (Below rb w w3):=B0.o.trans (hb3.mono hsz0);have R3:Hid (Q3 229 w3 rb (.string ⟨#[]⟩) (.slice none 0 0) (.bool false)):=R0.o.below hb3;have Om:Hid (Sl (fun b=>b<B) w3 (.slice (some ⟨g2,o2,none⟩) (q.length+1) c2) (c::q)):=HS2.o.below hb3 oo;have hs3:=X3.o.size;clear hb3 d0 d1 d2 d3;cases z2
    .have HV:Hid (dS (n::r)=none):=yj.o;have z0:=R3.o.fz 0;have z1:=R3.o.fz 1;have z2:=R3.o.fz 2;obtain⟨q0,q1,q2⟩:=R3.o.cs;go_wp2_with fail;refine bodyPost_ret (v:=.tuple #[.agg #[.string ⟨#[]⟩,.slice none 0 0,.bool false],.bool false]) (by simp[results,Tryz.results207,go_sem,q0,q1,q2]) rfl ?_;exact⟨by rw[HV.o];rfl,by rw[mF.o];exact gu B3.o nl _ _ _⟩
    .obtain⟨a4,hr4,hS4⟩:=Om.o.IC;have HS4:Hid (Sl (fun b=>b<B) w3 (.slice a4 q.length (c2-1)) q):=hS4;clear hS4;go_wp2_with fail;refine(uP B q _ w3 HS4.o).mono ?_;obtain⟨bq,Hbq⟩:∃bq,Hid (bare q=bq):=⟨_,hid rfl⟩;rw[Hbq.o]at yj;rw[Hbq.o];rintro e w5 ⟨v5,rfl,hS5,hw5⟩;subst hw5;have HS5:Hid (Sl (fun b=>b<B) w5 v5 bq):=hS5;obtain⟨a5,c5,rfl⟩:=hS5.form;clear hS5 hr4;go_wp2_with fail;refine(Ew B bq _ w5 HS5.o oo).mono ?_;obtain⟨⟨val,imp⟩,Hci⟩:∃ci,Hid (iy bq=ci):=⟨_,hid rfl⟩;rw[Hci.o]at yj;rw[Hci.o];rintro e w6 ⟨v6,rfl,hS6,hb6⟩;have Yu:Hid (Sl (fun b=>b<B) w6 v6 val):=hS6;obtain⟨a6,c6,rfl⟩:=hS6.form;have X6:Hid (Below w2.heap.size w2 w6):=X3.o.trans (hb6.mono hs3);have B6:Hid (Below rb w w6):=B0.o.trans (X6.o.mono hsz0)
     have R6:Hid (Q3 229 w6 rb (.string ⟨#[]⟩) (.slice none 0 0) (.bool false)):=R3.o.below hb6;have c1:=Gy.o w6 X6.o;have hs6:=X6.o.size;clear hS6 hb6;go_wp2_with fail;refine(OZ n.t.word w6 hwd).mono ?_;have hps:(je n.t.word).size<=4000000:=by rw[CO];exact hwd
     obtain⟨pr,Hpr⟩:∃pr,Hid (je n.t.word=pr):=⟨_,hid rfl⟩;rw[Hpr.o]at yj hps;rw[Hpr.o];rintro e w7 ⟨rfl,hb7⟩;have X7:Hid (Below w2.heap.size w2 w7):=X6.o.trans (hb7.mono hs6);have B7:Hid (Below rb w w7):=B0.o.trans (X7.o.mono hsz0);have R7:Hid (Q3 229 w7 rb (.string ⟨#[]⟩) (.slice none 0 0) (.bool false)):=R6.o.below hb7;have HS7:Hid (Sl (fun b=>b<B) w7 (.slice a6 val.length c6) val):=Yu.o.below hb7 oo;clear hb7 c1;have HV:Hid (dS (n::r)=some ⟨pr,val,imp⟩):=yj.o;have z0:=R7.o.fz 0;have z1:=R7.o.fz 1;have z2:=R7.o.fz 2;obtain⟨q0,q1,q2⟩:=R7.o.cs;go_wp2_with fail;refine bodyPost_ret (v:=.tuple #[.agg #[.string pr,.slice a6 val.length c6,.bool imp],.bool true]) (by simp[results,Tryz.results207,go_sem,q0,q1,q2]) rfl ?_
     have hst:∀k,k<B->(jr w7 rb (.string pr) (.slice a6 val.length c6) (.bool imp)).heap[k]?=w7.heap[k]?:=fun k hk=>mV w7 oo _ _ _;exact⟨by rw[HV.o];exact⟨_,rfl,HS7.o.keep (fun _ hg=>hg) hst,hps⟩,by rw[mF.o];exact gu B7.o nl _ _ _⟩
end
section
attribute [local go_sem] dH dI bQ bT
theorem uU:∀(f g:Nat) (l:List Nd),l.length<=f->l.length<=g->jB f l=jB g l:=by
 intro f;induction f with
 |zero=>intro g l hf hg;obtain rfl:l=[]:=List.eq_nil_of_length_eq_zero oo;cases g<;>rfl
 |succ f ih=>
  intro g l hf hg;cases l with
  |nil=>cases g<;>rfl
  |cons n r=>
   cases g with
   |zero=>simp at hg
   |succ g=>
    simp only[List.length_cons]at hf hg;unfold jB;dsimp only
    have h1:=jW (fun m=>aW m||aQ m) r;have h2:=jW aW (n::r);simp only[List.length_cons]at h2;rw[ih g r oo oo,ih g (bM (fun m=>aW m||aQ m) r).2.2 oo oo,ih g (bM aW (n::r)).2.2 oo oo]
theorem CS{n:Nd}{r:List Nd}(h:nI n=true):decls (n::r)=decls r:=by
 unfold decls;show jB (r.length+1) (n::r)=_;conv=>lhs;unfold jB
 rw[if_pos (by rw[h];rfl)]
theorem LM{n:Nd}{r:List Nd}(h:n.t.kind=10):decls (n::r)=decls (bM (fun m=>aW m||aQ m) r).2.2:=by
 have h1:=jW (fun m=>aW m||aQ m) r;unfold decls;show jB (r.length+1) (n::r)=_;conv=>lhs;unfold jB
 rw[if_neg (by simp[nI,aW,dY,ay,h]),if_pos h];exact uU _ _ _ oo nl
theorem CU{n:Nd}{r:List Nd}(h:¬n.t.kind=1)(h10:¬n.t.kind=10):decls (n::r)=(dS (bM aW (n::r)).1).toList++decls (bM aW (n::r)).2.2:=by
 have h1:=jW aW (n::r);simp only[List.length_cons]at h1;unfold decls;show jB (r.length+1) (n::r)=_;have hb:nI n=false:=by simp[nI,h]
 by_cases hs:aW n=true
 .conv=>lhs;unfold jB
  rw[if_pos (by rw[hs];simp)];unfold bM;rw[if_pos hs];rfl
 .conv=>lhs;unfold jB
  rw[if_neg (by rw[hb];simpa using hs),if_neg h10];dsimp only
  cases dS (bM aW (n::r)).1 with
  |none=>exact uU _ _ _ oo nl
  |some d=>show d::_=d::_;rw[uU r.length _ _ oo nl];rfl
def nZ:ug Dec:=fun S w d cs=>∃vv,cs=[.string d.prop,vv,.bool d.imp]/\Sl S w vv d.val/\d.prop.size<=4000000
theorem nZ.fair:Fair nZ:=by rintro S S' w w' d cs hS hw ⟨vv,h1,h2,h3⟩;exact⟨vv,h1,h2.keep hS hw,h3⟩
theorem nZ.sized:qG nZ 3:=by rintro S w d cs ⟨vv,rfl,_⟩;rfl
theorem VX:∃i,prog.info? 229=some i/\i.zero=some (.agg #[.string ⟨#[]⟩,.slice none 0 0,.bool false])/\i.size=3/\i.bytes=48:=info_parts (by kernel_rfl)
theorem acZ(w:World)(a b c:Value)(t:TypeId):∀j u,[a,b,c][j]?=some u->(w.alloc (.cells #[a,b,c] t)).cell? ((⟨w.heap.size,0,none⟩:Addr).add j)=some u:=by intro j u hu;rw[Addr.add_lit,Nat.zero_add,World.cell?_alloc_mark,<-hu];simp
structure DcI(B:Nat)(w:World)(l:List Nd)(u:Value)(acc:List Dec)(cs:List Value)(cv:Value)(cur:List Nd)(wr:World):Prop where
 row:wr.ownsRow w.heap.size 229 3 u acc.length cs
 cat:jv nZ (fun b=>b<B) wr acc cs
 now:Sl (fun b=>b<B) wr cv cur
 below:Below w.heap.size w wr
 eq:decls l=acc++decls cur
 ln:acc.length+cur.length<=l.length
theorem Ez(B:Nat)(l:List Nd)(v:Value)(w:World)(h:Sl (fun b=>b<B) w v l)(hB:B<=w.heap.size):
  Calls prog 136 #[v] w fun e w'=>∃u,e=.returned u/\SG nZ 3 (fun b=>b<w'.heap.size) w' u (decls l)/\Below w.heap.size w w':=by
 have Cc:=h.len;have HS:Hid (Sl (fun b=>b<B) w v l):=h;obtain⟨a,cap,rfl⟩:=h.form;clear h;obtain⟨iT,hiT⟩:=VX;have HI:Hid (prog.info? 229=some iT/\iT.zero=some (.agg #[.string ⟨#[]⟩,.slice none 0 0,.bool false])/\iT.size=3/\iT.bytes=48):=hiT;clear hiT;go_in;go_wp2_with fail;go_loopg[0,3] l.length (fun gg v0 v3 wr=>∃(u cv:Value) (acc:List Dec) (cs:List Value) (cur:List Nd),u=v3/\cv=v0/\cur.length<=gg/\acc.length<=600/\Aside (DcI B w l u acc cs cv cur wr));case atStart=>exact⟨_,_,[],[],l,rfl,rfl,oo,by simp,World.ownsRow_nil _ _ _ _,rfl,HS.o,Below.refl _ _,rfl,by simp⟩
 case round=>
  obtain⟨u,cv,acc,cs,cur,rfl,rfl,hcl,hal,hA⟩:=hrel;have HR:Hid (DcI B w l u acc cs cv cur wr):=hA.o;clear hA;obtain⟨ua,uc,rfl⟩:=iL HR.o.row;have hsr:=HR.o.below.size;cases cur with
  |nil=>
   obtain⟨ca,cc,rfl⟩:=HR.o.now.form;have HV:Hid (decls l=acc):=by show _=_;rw[HR.o.eq];exact List.append_nil _
   go_wp2_with fail;go_ret;exact⟨_,rfl,by rw[HV.o];exact JF nZ.fair nZ.sized HR.o.row HR.o.cat (fun g hg=>by have hg':g<B:=hg;omega) oo,HR.o.below⟩
  |cons n r=>
   obtain⟨g,o,nv,cap',rfl,hN,hcap⟩:=HR.o.now.head;have c0:=hN.c0;clear hN;have h1:(0:Int)<((r.length+1:Nat):Int):=oo;simp only[List.length_cons]at hcl;have hln:=HR.o.ln;simp only[List.length_cons]at hln;cases hk1:(n.t.kind==1)
   .have nk1:¬n.t.kind=1:=by simpa using hk1
    cases hk10:(n.t.kind==10)
    .have Zg:¬n.t.kind=10:=by simpa using hk10
     obtain⟨c,Hc⟩:∃c,Hid (bM aW (n::r)=c):=⟨_,hid rfl⟩;have qU:Hid (decls l=acc++((dS c.1).toList++decls c.2.2)):=by show _=_;rw[HR.o.eq,CU nk1 Zg,Hc.o]
     have hrl:c.2.2.length<=r.length:=by have:=jW aW (n::r);rw[Hc.o]at this;simp only[List.length_cons]at this;omega
     have Lm:Hid (mZ [⟨#[59]⟩]=aW):=funext acK;clear nk1 Zg;have B1:Hid (Below wr.heap.size wr (wr.alloc (.cells #[.string ⟨#[59]⟩] 9))):=(Below.refl _ _).alloc nl _;have II:Hid (∀j,j<1->(wr.alloc (.cells #[.string ⟨#[59]⟩] 9)).cell? ⟨wr.heap.size,0+j,none⟩=some (.string ([(⟨#[59]⟩:ByteArray)].getD j ByteArray.empty))):=by intro j hj;have hh:(wr.alloc (.cells #[.string ⟨#[59]⟩] 9)).heap[wr.heap.size]?=_:=heap_alloc_new wr _;unfold World.cell?;rw[hh];obtain rfl:j=0:=oo;rfl
     go_wp2_with fail;have hs1:=B1.o.size;have hlt1:wr.heap.size<(wr.alloc (.cells #[.string ⟨#[59]⟩] 9)).heap.size:=by simp
     generalize wr.alloc (.cells #[.string ⟨#[59]⟩] 9)=w1 at *;refine(VK B (n::r) _ [⟨#[59]⟩] _ w1 (HR.o.now.below B1.o oo) oo (by simp) hlt1 II.o).mono ?_;rw[Lm.o,Hc.o];rintro e w2 ⟨v1,sv,v2,rfl,hcut,hb2⟩;obtain⟨t,ka,ks,kc,rfl,hks,hsome,hbody⟩:=hcut.val;obtain⟨va,vc,rfl⟩:=hcut.ahead.form;obtain⟨ba,bc,rfl⟩:=hcut.behind.form;have X2:Hid (Below wr.heap.size wr w2):=B1.o.trans (hb2.mono hs1);have HA:Hid (Sl (fun b=>b<B) w2 (.slice va c.1.length vc) c.1):=hcut.ahead;have VL:Hid (Sl (fun b=>b<B) w2 (.slice ba c.2.2.length bc) c.2.2):=hcut.behind;have hs2:=X2.o.size;clear hcut hks hsome hbody hb2 II hlt1 B1 c0;unfold dM;go_wp2_with fail;refine(zQ B c.1 _ w2 HA.o oo).mono ?_;rintro e w3 ⟨hdc,hb3⟩;have X3:Hid (Below wr.heap.size wr w3):=X2.o.trans (hb3.mono hs2)
     have HB3:Hid (Sl (fun b=>b<B) w3 (.slice ba c.2.2.length bc) c.2.2):=VL.o.below hb3 oo;have hs3:=X3.o.size;clear hb3;cases hd:dS c.1 with
     |none=>
      rw[hd]at hdc;have VY:e=_:=hdc;subst VY;have X4:Hid (Below wr.heap.size wr (w3.alloc (.cells #[.string ⟨#[]⟩,.slice none 0 0,.bool false] 229))):=X3.o.alloc hs3 _;have Du:Hid (DcI B w l (.slice ua acc.length uc) acc cs (.slice ba c.2.2.length bc) c.2.2 (w3.alloc (.cells #[.string ⟨#[]⟩,.slice none 0 0,.bool false] 229))):=⟨aX HR.o.row fun k hk=>X4.o.block k (HR.o.row.lt k hk).2,HR.o.cat.keep nZ.fair (fun _ h=>h) (fun k hk=>by have hk':k<B:=hk;exact X4.o.block k oo),HB3.o.below ((Below.refl _ _).alloc nl _) oo,HR.o.below.trans (X4.o.mono hsr),by rw[qU.o,hd];rfl,oo⟩;clear hd;go_wp2_with fail;go_roundg(gk-1);case measure=>omega
      case rel=>exact⟨_,_,acc,cs,c.2.2,rfl,rfl,oo,hal,Du.o⟩
     |some d=>
      rw[hd]at hdc;obtain⟨vv,rfl,hvv,hps⟩:=hdc;obtain⟨da,dc,rfl⟩:=hvv.form;have HD:Hid (dS c.1=some d):=hd;have HVV:Hid (Sl (fun b=>b<B) w3 (.slice da d.val.length dc) d.val):=hvv;clear hd hvv;have afl:c.2.2.length+1<=(n::r).length:=by simp;omega
      have D4:Hid (Q3 229 (w3.alloc (.cells #[.string d.prop,.slice da d.val.length dc,.bool d.imp] 229)) w3.heap.size (.string d.prop) (.slice da d.val.length dc) (.bool d.imp)):=Q3.new _ _ _ _ _;have X4:Hid (Below wr.heap.size wr (w3.alloc (.cells #[.string d.prop,.slice da d.val.length dc,.bool d.imp] 229))):=X3.o.alloc hs3 _;have XX4:Hid (Below w3.heap.size w3 (w3.alloc (.cells #[.string d.prop,.slice da d.val.length dc,.bool d.imp] 229))):=(Below.refl _ _).alloc nl _;go_upto_region 7 with fail
      generalize w3.alloc (.cells #[.string d.prop,.slice da d.val.length dc,.bool d.imp] 229)=w4 at *;generalize w3.heap.size=gd at *;obtain⟨p0,p1,p2⟩:=D4.o.cs;have R4:Hid (w4.ownsRow w.heap.size 229 3 (.slice ua acc.length uc) acc.length cs):=aX HR.o.row fun k hk=>X4.o.block k (HR.o.row.lt k hk).2;have CT4:Hid (jv nZ (fun b=>b<B) w4 acc cs):=HR.o.cat.keep nZ.fair (fun _ h=>h) (fun k hk=>by have hk':k<B:=hk;exact X4.o.block k oo);have Oo:Hid (Below w.heap.size w w4):=HR.o.below.trans (X4.o.mono hsr);have hs4:=Oo.o.size;have Gz:Hid ((w4.alloc (.cells #[.string d.prop,.slice da d.val.length dc,.bool d.imp] 229)).ownsRow w.heap.size 229 3 (.slice ua acc.length uc) acc.length cs):=R4.o.alloc _;have hgd:=D4.o.lt;have abb:Hid (Sl (fun b=>b<B) w4 (.slice da d.val.length dc) d.val):=HVV.o.below XX4.o oo
      have HB4:Hid (Sl (fun b=>b<B) w4 (.slice ba c.2.2.length bc) c.2.2):=HB3.o.below XX4.o oo;go_wp2_with(at_builtin;go_must(refine wpList_append_own_at _ rfl _ _ 222 rfl w.heap.size 229 iT (.agg #[.string ⟨#[]⟩,.slice none 0 0,.bool false]) 3 48 Tryz.underlying222 HI.o.1 HI.o.2.1 HI.o.2.2.1 HI.o.2.2.2 rfl oo (.slice ua acc.length uc) acc.length cs rfl Gz.o ⟨w4.heap.size,0,none⟩ 1 1 [.string d.prop,.slice da d.val.length dc,.bool d.imp] rfl rfl (acZ _ _ _ _ _) (by simp[Value.oneCell']) (by unfold maxLen;omega) oo (by simp;omega) ?_));intro v6 w6 hown6 jO _ zH;have hlo:∀rr,Value.ownBlock (.slice ua acc.length uc)=some rr->w.heap.size<=rr:=fun rr hr=>(Gz.o.lt rr hr).1;have hb6:Below w.heap.size w4 w6:=((Below.refl _ _).alloc hs4 _).grown jO (by simp;omega) hlo
      have AX:Hid (DcI B w l v6 (acc++[d]) (cs++[.string d.prop,.slice da d.val.length dc,.bool d.imp]) (.slice ba c.2.2.length bc) c.2.2 w6):=⟨by rw[List.length_append];exact hown6,jv.snoc _ _ (CT4.o.keep nZ.fair (fun _ h=>h) (fun k hk=>hb6.block k (Nat.lt_of_lt_of_le hk hB))) d _ ⟨_,rfl,abb.o.below hb6 hB,hps⟩,HB4.o.below hb6 hB,Oo.o.trans hb6,by rw[qU.o,HD.o,List.append_assoc];rfl,by simp;omega⟩;have abd:(acc++[d]).length<=600:=by have:=AX.o.ln;omega
      clear hown6 jO zH hlo hb6;go_wp2_with fail;go_roundg(gk-1);case measure=>omega
      case rel=>exact⟨_,_,acc++[d],_,c.2.2,rfl,rfl,oo,abd,AX.o⟩
    .have k10:n.t.kind=10:=by simpa using hk10
     obtain⟨c,Hc⟩:∃c,Hid (bM (fun m=>aW m||aQ m) r=c):=⟨_,hid rfl⟩;have qU:Hid (decls l=acc++decls c.2.2):=by show _=_;rw[HR.o.eq,LM k10,Hc.o]
     have hrl:c.2.2.length<=r.length:=by have:=jW (fun m=>aW m||aQ m) r;rw[Hc.o]at this;omega
     clear k10 nk1;go_wp2_with fail;refine(Ll B n r _ wr HR.o.now oo).mono ?_;rw[Hc.o];rintro e w2 ⟨hv,bv,v2,rfl,Tc,VN,hb2⟩;obtain⟨va,vc,rfl⟩:=Tc.head.form;obtain⟨bl,hbl,hbe⟩:=Tc.body;obtain⟨ka,kc,rfl⟩:=hbl.form;obtain⟨ba,bc,rfl⟩:=VN.form;obtain⟨sb,Yt⟩:∃sb,Hid ((dw c.2.1).isSome=sb):=⟨_,hid rfl⟩;rw[Yt.o];have Du:Hid (DcI B w l (.slice ua acc.length uc) acc cs (.slice ba c.2.2.length bc) c.2.2 w2):=⟨aX HR.o.row fun k hk=>hb2.block k (HR.o.row.lt k hk).2,HR.o.cat.keep nZ.fair (fun _ h=>h) (fun k hk=>by have hk':k<B:=hk;exact hb2.block k oo),VN,HR.o.below.trans (hb2.mono hsr),qU.o,oo⟩;clear Tc hbl hbe VN hb2 c0;go_wp2_with fail;go_roundg(gk-1);case measure=>omega
     case rel=>exact⟨_,_,acc,cs,c.2.2,rfl,rfl,oo,hal,Du.o⟩
   .have k1:n.t.kind=1:=by simpa using hk1
    obtain⟨a1,hr1,hS1⟩:=HR.o.now.IC;have Du:Hid (DcI B w l (.slice ua acc.length uc) acc cs (.slice a1 r.length (cap'-1)) r wr):=⟨HR.o.row,HR.o.cat,hS1,HR.o.below,by rw[HR.o.eq,CS (by simp[nI,k1])],oo⟩;clear hS1 k1;go_wp2_with fail;go_roundg(gk-1);case measure=>omega
    case rel=>exact⟨_,_,acc,cs,r,rfl,rfl,oo,hal,Du.o⟩
end
theorem uV(s:ByteArray)(i:Int)(k:Nat)(w:World)(hi:i=k)(hs:s.size<=600)(hk:k<=s.size):
  Calls prog 128 #[.string s,.int .i64 i] w fun e w'=>e=.returned (.tuple #[.string (Sp.name s k).1,.int .i64 ((Sp.name s k).2:Int)])/\Below w.heap.size w w':=by
 subst hi;go_in;go_wp2_with fail;go_loopg[1,6] s.size (fun g v1 v6 wr=>∃(j:Nat) (acc:ByteArray),s.size<=j+g/\j<=s.size/\acc.size<=j/\v1=.int .i64 (j:Int)/\v6=.string acc/\Aside (jI s g j acc=Sp.name s k/\Below w.heap.size w wr));case atStart=>exact⟨k,ByteArray.empty,oo,hk,by simp,rfl,rfl,rfl,Below.refl _ _⟩
 case round=>
  obtain⟨j,acc,hj,hj2,hac,rfl,rfl,hA⟩:=hrel;have H1:Hid (jI s gk j acc=Sp.name s k):=hA.o.1;have HB:Hid (Below w.heap.size w wr):=hA.o.2;clear hA;by_cases hlt:j<s.size
  .have h1:(j:Int)<(s.size:Int):=oo;have hix:=aV s j hlt;obtain⟨f,rfl⟩:∃f,gk=f+1:=⟨gk-1,oo⟩;have dW:=H1.o;unfold jI at dW;cases hn:iD (pk s j)
   .rw[if_neg (by simp[hn])]at dW;cases he:jq s j
    .rw[if_neg (by simp[he])]at dW;have HV:Hid ((acc,j)=Sp.name s k):=dW;clear dW;go_wp2_with fail;refine aN (gG _ _) ?_;go_wp2_with fail;refine aN (aU s _ j _ oo oo oo) ?_;go_wp2_with fail;go_ret2
     rw[<-HV.o];exact⟨rfl,HB.o⟩
    .rw[if_pos he]at dW;have hge:=og hlt;have hgt:=nG s j;have hsz:Hid ((esc s j).1.size=1):=kZ;obtain⟨x,q,HX⟩:∃x q,Hid (esc s j=(x,q)):=⟨_,_,rfl⟩;rw[HX.o]at dW hge hgt;have hxs:x.size<=1:=by have:=hsz.o;rw[HX.o]at this;exact Nat.le_of_eq this
     have HV:Hid (jI s f q (acc++x)=Sp.name s k):=dW;clear dW hsz;go_wp2_with fail;refine aN (gG _ _) ?_;go_wp2_with fail;refine aN (aU s _ j _ oo oo oo) ?_;go_wp2_with fail;refine(zK s _ j _ oo oo oo).mono ?_;rw[HX.o];rintro e w1 ⟨rfl,hb⟩;have HB1:Hid (Below w.heap.size w w1):=HB.o.trans (hb.mono HB.o.size);clear hb;go_wp2_with fail;go_roundg f;case measure=>omega
     case rel=>exact⟨q,acc++x,oo,oo,by simp;omega,rfl,rfl,HV.o,HB1.o⟩
   .rw[if_pos hn]at dW;have HV:Hid (jI s f (j+1) (acc++one s j)=Sp.name s k):=dW;have hsz:(one s j).size<=1:=by rw[iE hlt];omega
    have hsl:=oV s j hlt;clear dW;go_wp2_with fail;refine aN (gG _ _) ?_;go_wp2_with fail;refine aN (aU s _ j _ oo oo oo) ?_;go_wp2_with fail;go_roundg f;case measure=>omega
    case rel=>exact⟨j+1,acc++one s j,oo,oo,by simp;omega,by congr 1,rfl,HV.o,HB.o⟩
  .have h1:(s.size:Int)<=(j:Int):=oo;have HV:Hid ((acc,j)=Sp.name s k):=by
    show _=_;rw[<-H1.o];have hp:=mO (s:=s) (i:=j) oo;cases gk with
    |zero=>rfl
    |succ f=>unfold jI;rw[if_neg (by rw[hp];decide),if_neg (by simp[jq,hp])]
   go_wp2_with fail;go_ret2
   rw[<-HV.o];exact⟨rfl,HB.o⟩
end Go.Proofs.YtlliliddljkbfaaGreatDoor
