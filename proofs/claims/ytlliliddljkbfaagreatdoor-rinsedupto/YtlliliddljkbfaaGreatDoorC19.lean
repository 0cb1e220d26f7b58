import Derived.Test.YtlliliddljkbfaaGreatDoorC7
import Derived.Test.YtlliliddljkbfaaGreatDoorC9
import Derived.Test.YtlliliddljkbfaaGreatDoorC10
import Derived.Test.YtlliliddljkbfaaGreatDoorC16
namespace Go.Proofs.YtlliliddljkbfaaGreatDoor
set_option maxHeartbeats 64000000
set_option maxRecDepth 100000
open Go.Proofs.Tryz (prog)
open Go.RowKit Sp
theorem uZ(s:ByteArray)(b i:Nat)(t:ByteArray)(w:World)(h:Sc w b s i):
  Calls prog 159 #[.pointer (some ⟨b,0,none⟩),.string t] w fun e w'=>e=.returned (.bool (pre s i t.data.toList))/\∃n,w'=w.drewN n:=by
 have h0:=h.c0;have h1:=h.c1;have hs:=h.len;have hi:=h.le;clear h;rw[<-Y4];go_in;go_wp2_with fail;go_quiet ((go_at_call 148;exact Calls.quiet_of_same (Tryz.strings_HasPrefix _ _ _)))
 go_wp2_with fail;go_ret;exact⟨rfl,_,rfl⟩
theorem Ro(s:ByteArray)(l:Int)(k:Nat)(hl:l=k)(h:k<=s.size)(w:World):(Instr.slice 9 (.string s) (some (.int .i64 l)) none none).run prog w=.ok (.string (s.extract k s.size)) w:=by subst hl;have:=run_slice_string_l (P:=prog) (w:=w) (t:=9) (s:=s) (ht:=Tryz.underlying9) .i64 (k:Int) oo oo;simpa using this
theorem TA(s:ByteArray)(k:Nat)(m:Int)(w:World)(h6:s.size<=600)(hk:k<=s.size)(hst:s.size<=star s k)(hm:w.cell? ⟨0,0,none⟩=some (.int .i64 m)):
  Calls prog 160 #[.string (s.extract k s.size),.string ⟨#[42,47]⟩] w fun e w'=>e=.returned (.int .i64 (-1))/\w'=w:=by
 refine(Tryz.strings_Index _ _ m w (by simp;omega) hm).mono ?_;rintro e w' ⟨rfl,rfl⟩;exact⟨wL (Ep hk hst),rfl⟩
theorem V6(s:ByteArray)(k:Nat)(m:Int)(w:World)(h6:s.size<=600)(hk:k<=s.size)(hst:star s k<s.size)(hm:w.cell? ⟨0,0,none⟩=some (.int .i64 m)):
  Calls prog 160 #[.string (s.extract k s.size),.string ⟨#[42,47]⟩] w fun e w'=>e=.returned (.int .i64 ((star s k-k:Nat):Int))/\w'=w:=by
 refine(Tryz.strings_Index _ _ m w (by simp;omega) hm).mono ?_;rintro e w' ⟨rfl,rfl⟩;exact⟨wL (by rw[show(⟨#[42,47]⟩:ByteArray).data.toList=[42,47] from rfl,GX hk hst];have:=DU s k;omega),rfl⟩
theorem LV(s:ByteArray)(i:Nat):pre s i [47,42]=(pk s i==47&&pk s (i+1)==42):=by simp[pre]
theorem ES(s:ByteArray)(b i:Nat)(w:World)(h:Sc w b s i):
  Calls prog 94 #[.pointer (some ⟨b,0,none⟩)] w fun e w'=>e=.returned (.tuple #[])/\aG b s (com s i) w w':=by
 have W:Hid (aG b s i w w):=aG.refl h;clear h;go_in;go_wp2_with fail;refine jK (fun Q' hF=>?_);go_wp2_with fail;go_loopg[] s.size (fun g wr=>∃k:Nat,s.size<=k+g/\Aside (uG s g k=com s i/\aG b s k w wr));case atStart=>exact⟨i,oo,rfl,W.o⟩
 case round=>
  obtain⟨k,hk,hA⟩:=hrel;have H1:Hid (uG s gk k=com s i):=hA.o.1;have H2:Hid (aG b s k w wr):=hA.o.2;clear hA;have c02:=H2.o.1.c0;have c12:=H2.o.1.c1;have cf2:=H2.o.1.f1;have cl2:=H2.o.1.lt;have cs2:=H2.o.1.len;have ce2:=H2.o.1.le;cases hpre:pre s k [47,42]
  .have HV:Hid (com s i=k):=by
    show _=_;rw[LV]at hpre;rw[<-H1.o];cases gk with
    |zero=>rfl
    |succ f=>unfold uG;rw[if_neg (fun h=>by simp[h]at hpre)]
   go_wp2_with fail;refine dK (uZ s b k _ _ H2.o.1) fun nq=>?_;go_wp2_with fail;go_step3
   refine hF.norm _ _ ?_;go_end0
   refine⟨rfl,?_⟩;rw[HV.o];exact H2.o.drewN _
  .have ho:pk s k=47/\pk s (k+1)=42:=by rw[LV]at hpre;simpa using hpre
   have hlt:k+1<s.size:=dX oo;have hge:=DU s (k+2);have hle:=QV (s:=s) (k:=k+2) oo;obtain⟨f,rfl⟩:∃f,gk=f+1:=⟨gk-1,oo⟩;have dW:=H1.o;unfold uG at dW;rw[if_pos ho]at dW;clear ho;by_cases hst:s.size<=star s (k+2)
   .rw[if_pos hst]at dW;have HV:Hid (com s i=s.size):=dW.symm;clear dW;go_wp2_with fail;refine(uZ s b k _ _ H2.o.1).mono ?_;rintro e wq ⟨rfl,nq,hwq⟩;have W1:Hid (aG b s k w wq):=by show aG b s k w wq;rw[hwq];exact H2.o.drewN nq
    clear hwq;have c03:=W1.o.1.c0;have c13:=W1.o.1.c1;have cf3:=W1.o.1.f1;have cl3:=W1.o.1.lt;have cs3:=W1.o.1.len;have ce3:=W1.o.1.le;go_wp2_with fail;obtain⟨m,hm⟩:=W1.o.1.glob;have hw2:IntKind.i64.wrap ((k:Int)+2)=(k:Int)+2:=by rw[IntKind.wrap_i64];omega
    have hsl:=Ro s ((k:Int)+2) (k+2) oo oo;go_quiet ((go_at_call 160;exact Calls.quiet_of_same (TA s (k+2) m _ oo oo hst hm)))
    go_wp2_with fail;go_step3
    refine hF.go _ _ _ _ rfl ?_;clear hF;go_wp2
    simp only[Exit.noGoto];go_end0
    refine⟨rfl,?_⟩;rw[HV.o];exact(W1.o.drewN _).jw _ s.size rfl nl
   .have hst':star s (k+2)<s.size:=oo;have hle2:=D9 hst';rw[if_neg hst]at dW;have HV:Hid (uG s f (star s (k+2)+2)=com s i):=dW;clear dW;go_wp2_with fail;refine(uZ s b k _ _ H2.o.1).mono ?_;rintro e wq ⟨rfl,nq,hwq⟩;have W1:Hid (aG b s k w wq):=by show aG b s k w wq;rw[hwq];exact H2.o.drewN nq
    clear hwq;have c03:=W1.o.1.c0;have c13:=W1.o.1.c1;have cf3:=W1.o.1.f1;have cl3:=W1.o.1.lt;have cs3:=W1.o.1.len;have ce3:=W1.o.1.le;go_wp2_with fail;obtain⟨m,hm⟩:=W1.o.1.glob;have hw2:IntKind.i64.wrap ((k:Int)+2)=(k:Int)+2:=by rw[IntKind.wrap_i64];omega
    have hsl:=Ro s ((k:Int)+2) (k+2) oo oo;go_quiet ((go_at_call 160;exact Calls.quiet_of_same (V6 s (k+2) m _ oo oo hst' hm)))
    generalize hd:star s (k+2)-(k+2)=d;have hd1:star s (k+2)=k+2+d:=oo;have HD:Hid (star s (k+2)=k+2+d):=hd1;have hd2:k+2+d+2<=s.size:=oo;clear hd hd1 hst hst' hge hle hle2;go_wp2_with fail;go_roundg f;case measure=>omega
    case rel=>refine⟨k+2+d+2,oo,?_,(W1.o.drewN _).jw _ (k+2+d+2) oo oo⟩;rw[<-HD.o];exact HV.o
theorem aef(s:ByteArray)(i:Nat):pre s i [60,33,45,45]=jg s i:=by simp[pre,jg,Bool.and_assoc]
theorem aeg(s:ByteArray)(i:Nat):pre s i [45,45,62]=jJ s i:=by simp[pre,jJ,Bool.and_assoc]
theorem jY(s:ByteArray)(b i:Nat)(w:World)(h:Sc w b s i):
  Calls prog 159 #[.pointer (some ⟨b,0,none⟩),.string ⟨#[60,33,45,45]⟩] w fun e w'=>e=.returned (.bool (jg s i))/\∃n,w'=w.drewN n:=by
 rw[<-aef];exact uZ s b i _ w h
theorem lI(s:ByteArray)(b i:Nat)(w:World)(h:Sc w b s i):
  Calls prog 159 #[.pointer (some ⟨b,0,none⟩),.string ⟨#[45,45,62]⟩] w fun e w'=>e=.returned (.bool (jJ s i))/\∃n,w'=w.drewN n:=by
 rw[<-aeg];exact uZ s b i _ w h
theorem LW(s:ByteArray)(b i:Nat)(w:World)(h:Sc w b s i)(hi:i<s.size)(hbl:bJ (pk s i)=true)(HV:Hid (token s i=(Tok.k 1,Sp.blk s i))):
  Calls prog 96 #[.pointer (some ⟨b,0,none⟩)] w fun e w'=>e=.returned (aF (token s i).1)/\aG b s (token s i).2 w w':=by
 have W:=aG.nh h;have R:=fF.nh w;have hbw:b<w.heap.size:=h.lt;have hs:s.size<=600:=h.len;have _hi:=hi;clear h;have c00:=W.o.1.c0;have c10:=W.o.1.c1;have GY:=W.o.1.f1;have GZ:=W.o.1.lt;have cs0:=W.o.1.len;have G5:=W.o.1.le;go_in;go_wp2_with fail;refine dK (ak s b (i) _ (i) _ (W.o.1) ⟨oo,oo,oo⟩) fun nq=>?_;go_wp2_with fail;refine aN (bF _ _) ?_;go_wp2_with fail;refine pmb (lH s b i _ (W.o.1.drewN _)) fun w1 aj=>?_;have W1:Hid (aG b s (Sp.blk s i) w w1):=(W.o.drewN _).trans aj;have R1:Hid (fF w1 w.heap.size):=(R.o.drewN _).turn aj.2 oo;clear aj;have r0:=R1.o.c0;have r1:=R1.o.c1;have r2:=R1.o.c2;have rf:=R1.o.f;have rl:=R1.o.lt;go_wp2_with fail
 refine bodyPost_ret (v:=aF (Tok.k 1)) (by simp[results,Tryz.results96,go_sem,aF,Tok.k,r0,r1,r2];rfl) rfl ⟨?_,?_⟩
 .rw[HV.o]
 .rw[HV.o];exact((W1.o.dG hbw nl _ _).dG hbw nl _ _).dG hbw nl _ _
theorem Pg(s:ByteArray)(b i:Nat)(w:World)(h:Sc w b s i)(hi:i<s.size)(hbl:bJ (pk s i)=false)(rW:fU (pk s i)=true)(HV:Hid (token s i=txt s (pk s i) (i+1))):
  Calls prog 96 #[.pointer (some ⟨b,0,none⟩)] w fun e w'=>e=.returned (aF (token s i).1)/\aG b s (token s i).2 w w':=by
 have W:=aG.nh h;have R:=fF.nh w;have hbw:b<w.heap.size:=h.lt;have hs:s.size<=600:=h.len;have _hi:=hi;clear h;have c00:=W.o.1.c0;have c10:=W.o.1.c1;have GY:=W.o.1.f1;have GZ:=W.o.1.lt;have cs0:=W.o.1.len;have G5:=W.o.1.le;go_in;go_wp2_with fail;refine dK (ak s b (i) _ (i) _ (W.o.1) ⟨oo,oo,oo⟩) fun nq=>?_;go_wp2_with fail;refine aN (bF _ _) ?_;go_wp2_with fail;refine aN (gB _ _) ?_;go_wp2_with fail;refine pmb (abe s b i _ (W.o.1.drewN _) hi) fun w1 aj=>?_;have W1:Hid (aG b s (txt s (pk s i) (i+1)).2 w w1):=(W.o.drewN _).trans aj;have R1:Hid (fF w1 w.heap.size):=(R.o.drewN _).turn aj.2 oo;clear aj;have r0:=R1.o.c0;have r1:=R1.o.c1;have r2:=R1.o.c2;have rf:=R1.o.f;have rl:=R1.o.lt;unfold aF;go_wp2_with fail
 refine bodyPost_ret (v:=aF ((txt s (pk s i) (i+1)).1)) (by simp[results,Tryz.results96,go_sem,aF,r0,r1,r2]) rfl ⟨?_,?_⟩
 .rw[HV.o]
 .rw[HV.o];exact((W1.o.dG hbw nl _ _).dG hbw nl _ _).dG hbw nl _ _
theorem Ph(s:ByteArray)(b i:Nat)(w:World)(h:Sc w b s i)(hi:i<s.size)(hbl:bJ (pk s i)=false)(rW:fU (pk s i)=false)(hha:(pk s i==35)=true)(hgo:jD s (i+1)=true)(HV:Hid (token s i=(Tok.w 4 (Sp.name s (i+1)).1,(Sp.name s (i+1)).2))):
  Calls prog 96 #[.pointer (some ⟨b,0,none⟩)] w fun e w'=>e=.returned (aF (token s i).1)/\aG b s (token s i).2 w w':=by
 have W:=aG.nh h;have R:=fF.nh w;have hbw:b<w.heap.size:=h.lt;have hs:s.size<=600:=h.len;have _hi:=hi;clear h;have c00:=W.o.1.c0;have c10:=W.o.1.c1;have GY:=W.o.1.f1;have GZ:=W.o.1.lt;have cs0:=W.o.1.len;have G5:=W.o.1.le;go_in;go_wp2_with fail;refine dK (ak s b (i) _ (i) _ (W.o.1) ⟨oo,oo,oo⟩) fun nq=>?_;go_wp2_with fail;refine aN (bF _ _) ?_;go_wp2_with fail;refine aN (gB _ _) ?_;go_wp2_with fail;refine dK (lG s b (i) _ (i+1) _ (W.o.1.drewN _) ⟨oo,oo,oo⟩) fun nq=>?_;go_wp2_with fail;refine pmb (yc s b (i+1) _ ((W.o.1.drewN _).jw _ (i+1) oo oo)) fun w1 aj=>?_;have W1:Hid (aG b s (Sp.name s (i+1)).2 w w1):=((W.o.drewN _).jw _ (i+1) oo oo).trans aj
 have R1:Hid (fF w1 w.heap.size):=((R.o.drewN _).set oo _).turn aj.2 oo;clear aj;have r0:=R1.o.c0;have r1:=R1.o.c1;have r2:=R1.o.c2;have rf:=R1.o.f;have rl:=R1.o.lt;go_wp2_with fail;refine bodyPost_ret (v:=aF (Tok.w 4 (Sp.name s (i+1)).1)) (by simp[results,Tryz.results96,go_sem,aF,Tok.w,r0,r1,r2];rfl) rfl ⟨?_,?_⟩
 .rw[HV.o]
 .rw[HV.o];exact((W1.o.dG hbw nl _ _).dG hbw nl _ _).dG hbw nl _ _
theorem LX(s:ByteArray)(b i:Nat)(w:World)(h:Sc w b s i)(hi:i<s.size)(hbl:bJ (pk s i)=false)(rW:fU (pk s i)=false)(hha:(pk s i==35)=false)(hnu:fV s i=true)(HV:Hid (token s i=Sp.numeric s i)):
  Calls prog 96 #[.pointer (some ⟨b,0,none⟩)] w fun e w'=>e=.returned (aF (token s i).1)/\aG b s (token s i).2 w w':=by
 have W:=aG.nh h;have R:=fF.nh w;have hbw:b<w.heap.size:=h.lt;have hs:s.size<=600:=h.len;have _hi:=hi;clear h;have c00:=W.o.1.c0;have c10:=W.o.1.c1;have GY:=W.o.1.f1;have GZ:=W.o.1.lt;have cs0:=W.o.1.len;have G5:=W.o.1.le;go_in;go_wp2_with fail;refine dK (ak s b (i) _ (i) _ (W.o.1) ⟨oo,oo,oo⟩) fun nq=>?_;go_wp2_with fail;refine aN (bF _ _) ?_;go_wp2_with fail;refine aN (gB _ _) ?_;go_wp2_with fail;refine dK (dO s b i _ (W.o.1.drewN _)) fun nq=>?_;go_wp2_with fail;refine pmb (IQ s b i _ (W.o.1.drewN _)) fun w1 aj=>?_;have W1:Hid (aG b s (Sp.numeric s i).2 w w1):=(W.o.drewN _).trans aj;have R1:Hid (fF w1 w.heap.size):=(R.o.drewN _).turn aj.2 oo;clear aj;have r0:=R1.o.c0
 have r1:=R1.o.c1;have r2:=R1.o.c2;have rf:=R1.o.f;have rl:=R1.o.lt;unfold aF;go_wp2_with fail;refine bodyPost_ret (v:=aF ((Sp.numeric s i).1)) (by simp[results,Tryz.results96,go_sem,aF,r0,r1,r2]) rfl ⟨?_,?_⟩
 .rw[HV.o]
 .rw[HV.o];exact((W1.o.dG hbw nl _ _).dG hbw nl _ _).dG hbw nl _ _
theorem JL(s:ByteArray)(b i:Nat)(w:World)(h:Sc w b s i)(hi:i<s.size)(hbl:bJ (pk s i)=false)(rW:fU (pk s i)=false)(hha:(pk s i==35)=false)(hnu:fV s i=false)(hs4:jg s i=true)(hl:i+4<=s.size)(HV:Hid (token s i=(Tok.k 8,i+4))):
  Calls prog 96 #[.pointer (some ⟨b,0,none⟩)] w fun e w'=>e=.returned (aF (token s i).1)/\aG b s (token s i).2 w w':=by
 have W:=aG.nh h;have R:=fF.nh w;have hbw:b<w.heap.size:=h.lt;have hs:s.size<=600:=h.len;have _hi:=hi;clear h;have c00:=W.o.1.c0;have c10:=W.o.1.c1;have GY:=W.o.1.f1;have GZ:=W.o.1.lt;have cs0:=W.o.1.len;have G5:=W.o.1.le;go_in;go_wp2_with fail;refine dK (ak s b (i) _ (i) _ (W.o.1) ⟨oo,oo,oo⟩) fun nq=>?_;go_wp2_with fail;refine aN (bF _ _) ?_;go_wp2_with fail;refine aN (gB _ _) ?_;go_wp2_with fail;refine dK (dO s b i _ (W.o.1.drewN _)) fun nq=>?_;go_wp2_with fail;refine dK (jY s b i _ (W.o.1.drewN _)) fun nq=>?_;have r0:=R.o.c0;have r1:=R.o.c1;have r2:=R.o.c2;have rf:=R.o.f;have rl:=R.o.lt;go_wp2_with fail
 refine bodyPost_ret (v:=aF (Tok.k 8)) (by simp[results,Tryz.results96,go_sem,aF,Tok.k,r0,r1,r2];rfl) rfl ⟨?_,?_⟩
 .rw[HV.o]
 .rw[HV.o];exact((((W.o.drewN _).jw _ (i+4) oo oo).dG hbw nl _ _).dG hbw nl _ _).dG hbw nl _ _
theorem Hg(s:ByteArray)(b i:Nat)(w:World)(h:Sc w b s i)(hi:i<s.size)(hbl:bJ (pk s i)=false)(rW:fU (pk s i)=false)(hha:(pk s i==35)=false)(hnu:fV s i=false)(hs4:jg s i=false)(hs3:jJ s i=true)(hl:i+3<=s.size)(HV:Hid (token s i=(Tok.k 9,i+3))):
  Calls prog 96 #[.pointer (some ⟨b,0,none⟩)] w fun e w'=>e=.returned (aF (token s i).1)/\aG b s (token s i).2 w w':=by
 have W:=aG.nh h;have R:=fF.nh w;have hbw:b<w.heap.size:=h.lt;have hs:s.size<=600:=h.len;have _hi:=hi;clear h;have c00:=W.o.1.c0;have c10:=W.o.1.c1;have GY:=W.o.1.f1;have GZ:=W.o.1.lt;have cs0:=W.o.1.len;have G5:=W.o.1.le;go_in;go_wp2_with fail;refine dK (ak s b (i) _ (i) _ (W.o.1) ⟨oo,oo,oo⟩) fun nq=>?_;go_wp2_with fail;refine aN (bF _ _) ?_;go_wp2_with fail;refine aN (gB _ _) ?_;go_wp2_with fail;refine dK (dO s b i _ (W.o.1.drewN _)) fun nq=>?_;go_wp2_with fail;refine dK (jY s b i _ (W.o.1.drewN _)) fun nq=>?_;go_wp2_with fail;refine dK (lI s b i _ (W.o.1.drewN _)) fun nq=>?_;have r0:=R.o.c0;have r1:=R.o.c1;have r2:=R.o.c2;have rf:=R.o.f;have rl:=R.o.lt
 go_wp2_with fail;refine bodyPost_ret (v:=aF (Tok.k 9)) (by simp[results,Tryz.results96,go_sem,aF,Tok.k,r0,r1,r2];rfl) rfl ⟨?_,?_⟩
 .rw[HV.o]
 .rw[HV.o];exact((((W.o.drewN _).jw _ (i+3) oo oo).dG hbw nl _ _).dG hbw nl _ _).dG hbw nl _ _
theorem Pj(s:ByteArray)(b i:Nat)(w:World)(h:Sc w b s i)(hi:i<s.size)(hbl:bJ (pk s i)=false)(rW:fU (pk s i)=false)(hha:(pk s i==35)=false)(hnu:fV s i=false)(hs4:jg s i=false)(hs3:jJ s i=false)(hat:(pk s i==64)=true)(hb1:iq s (i+1)=true)(HV:Hid (token s i=(Tok.w 10 (Sp.name s (i+1)).1,(Sp.name s (i+1)).2))):
  Calls prog 96 #[.pointer (some ⟨b,0,none⟩)] w fun e w'=>e=.returned (aF (token s i).1)/\aG b s (token s i).2 w w':=by
 have W:=aG.nh h;have R:=fF.nh w;have hbw:b<w.heap.size:=h.lt;have hs:s.size<=600:=h.len;have _hi:=hi;clear h;have c00:=W.o.1.c0;have c10:=W.o.1.c1;have GY:=W.o.1.f1;have GZ:=W.o.1.lt;have cs0:=W.o.1.len;have G5:=W.o.1.le;go_in;go_wp2_with fail;refine dK (ak s b (i) _ (i) _ (W.o.1) ⟨oo,oo,oo⟩) fun nq=>?_;go_wp2_with fail;refine aN (bF _ _) ?_;go_wp2_with fail;refine aN (gB _ _) ?_;go_wp2_with fail;refine dK (dO s b i _ (W.o.1.drewN _)) fun nq=>?_;go_wp2_with fail;refine dK (jY s b i _ (W.o.1.drewN _)) fun nq=>?_;go_wp2_with fail;refine dK (lI s b i _ (W.o.1.drewN _)) fun nq=>?_;go_wp2_with fail
 refine dK (gV s b (i) _ (i+1) _ (W.o.1.drewN _) ⟨oo,oo,oo⟩) fun nq=>?_;go_wp2_with fail;refine pmb (yc s b (i+1) _ ((W.o.1.drewN _).jw _ (i+1) oo oo)) fun w1 aj=>?_;have W1:Hid (aG b s (Sp.name s (i+1)).2 w w1):=((W.o.drewN _).jw _ (i+1) oo oo).trans aj;have R1:Hid (fF w1 w.heap.size):=((R.o.drewN _).set oo _).turn aj.2 oo;clear aj;have r0:=R1.o.c0;have r1:=R1.o.c1;have r2:=R1.o.c2;have rf:=R1.o.f;have rl:=R1.o.lt;go_wp2_with fail;refine bodyPost_ret (v:=aF (Tok.w 10 (Sp.name s (i+1)).1)) (by simp[results,Tryz.results96,go_sem,aF,Tok.w,r0,r1,r2];rfl) rfl ⟨?_,?_⟩
 .rw[HV.o]
 .rw[HV.o];exact((W1.o.dG hbw nl _ _).dG hbw nl _ _).dG hbw nl _ _
theorem ET(s:ByteArray)(b i:Nat)(w:World)(h:Sc w b s i)(hi:i<s.size)(hbl:bJ (pk s i)=false)(rW:fU (pk s i)=false)(hha:(pk s i==35)=false)(hnu:fV s i=false)(hs4:jg s i=false)(hs3:jJ s i=false)(hat:(pk s i==64)=false)(hb0:iq s i=true)(HV:Hid (token s i=named s i)):
  Calls prog 96 #[.pointer (some ⟨b,0,none⟩)] w fun e w'=>e=.returned (aF (token s i).1)/\aG b s (token s i).2 w w':=by
 have W:=aG.nh h;have R:=fF.nh w;have hbw:b<w.heap.size:=h.lt;have hs:s.size<=600:=h.len;have _hi:=hi;clear h;have c00:=W.o.1.c0;have c10:=W.o.1.c1;have GY:=W.o.1.f1;have GZ:=W.o.1.lt;have cs0:=W.o.1.len;have G5:=W.o.1.le;go_in;go_wp2_with fail;refine dK (ak s b (i) _ (i) _ (W.o.1) ⟨oo,oo,oo⟩) fun nq=>?_;go_wp2_with fail;refine aN (bF _ _) ?_;go_wp2_with fail;refine aN (gB _ _) ?_;go_wp2_with fail;refine dK (dO s b i _ (W.o.1.drewN _)) fun nq=>?_;go_wp2_with fail;refine dK (jY s b i _ (W.o.1.drewN _)) fun nq=>?_;go_wp2_with fail;refine dK (lI s b i _ (W.o.1.drewN _)) fun nq=>?_;go_wp2_with fail
 refine dK (gV s b (i) _ (i) _ (W.o.1.drewN _) ⟨oo,oo,oo⟩) fun nq=>?_;go_wp2_with fail;refine pmb (JJ s b i _ (W.o.1.drewN _)) fun w1 aj=>?_;have W1:Hid (aG b s (named s i).2 w w1):=(W.o.drewN _).trans aj;have R1:Hid (fF w1 w.heap.size):=(R.o.drewN _).turn aj.2 oo;clear aj;have r0:=R1.o.c0;have r1:=R1.o.c1;have r2:=R1.o.c2;have rf:=R1.o.f;have rl:=R1.o.lt;unfold aF;go_wp2_with fail;refine bodyPost_ret (v:=aF ((named s i).1)) (by simp[results,Tryz.results96,go_sem,aF,r0,r1,r2]) rfl ⟨?_,?_⟩
 .rw[HV.o]
 .rw[HV.o];exact((W1.o.dG hbw nl _ _).dG hbw nl _ _).dG hbw nl _ _
theorem Hr(s:ByteArray)(b i:Nat)(w:World)(h:Sc w b s i)(hi:i<s.size)(hbl:bJ (pk s i)=false)(rW:fU (pk s i)=false)(hha:(pk s i==35)=false)(hnu:fV s i=false)(hs4:jg s i=false)(hs3:jJ s i=false)(hat:(pk s i==64)=false)(hb0:iq s i=false)(HV:Hid (token s i=(Tok.w 15 (one s i),i+1))):
  Calls prog 96 #[.pointer (some ⟨b,0,none⟩)] w fun e w'=>e=.returned (aF (token s i).1)/\aG b s (token s i).2 w w':=by
 have W:=aG.nh h;have R:=fF.nh w;have hbw:b<w.heap.size:=h.lt;have hs:s.size<=600:=h.len;have _hi:=hi;clear h;have c00:=W.o.1.c0;have c10:=W.o.1.c1;have GY:=W.o.1.f1;have GZ:=W.o.1.lt;have cs0:=W.o.1.len;have G5:=W.o.1.le;go_in;go_wp2_with fail;refine dK (ak s b (i) _ (i) _ (W.o.1) ⟨oo,oo,oo⟩) fun nq=>?_;go_wp2_with fail;refine aN (bF _ _) ?_;go_wp2_with fail;refine aN (gB _ _) ?_;go_wp2_with fail;refine dK (dO s b i _ (W.o.1.drewN _)) fun nq=>?_;go_wp2_with fail;refine dK (jY s b i _ (W.o.1.drewN _)) fun nq=>?_;go_wp2_with fail;refine dK (lI s b i _ (W.o.1.drewN _)) fun nq=>?_;go_wp2_with fail
 refine dK (gV s b (i) _ (i) _ (W.o.1.drewN _) ⟨oo,oo,oo⟩) fun nq=>?_;go_wp2_with fail;refine pmb (x9 s b i _ (W.o.1.drewN _) hi) fun w1 aj=>?_;have W1:Hid (aG b s (i+1) w w1):=(W.o.drewN _).trans aj;have R1:Hid (fF w1 w.heap.size):=(R.o.drewN _).turn aj.2 oo;clear aj;have r0:=R1.o.c0;have r1:=R1.o.c1;have r2:=R1.o.c2;have rf:=R1.o.f;have rl:=R1.o.lt;go_wp2_with fail;refine bodyPost_ret (v:=aF (Tok.w 15 (one s i))) (by simp[results,Tryz.results96,go_sem,aF,Tok.w,r0,r1,r2];rfl) rfl ⟨?_,?_⟩
 .rw[HV.o]
 .rw[HV.o];exact((W1.o.dG hbw nl _ _).dG hbw nl _ _).dG hbw nl _ _
theorem EU(s:ByteArray)(b i:Nat)(w:World)(h:Sc w b s i)(hi:i<s.size)(hbl:bJ (pk s i)=false)(rW:fU (pk s i)=false)(hha:(pk s i==35)=false)(hnu:fV s i=false)(hs4:jg s i=false)(hs3:jJ s i=false)(hat:(pk s i==64)=true)(hb1:iq s (i+1)=false)(hb0:iq s i=true)(HV:Hid (token s i=named s i)):
  Calls prog 96 #[.pointer (some ⟨b,0,none⟩)] w fun e w'=>e=.returned (aF (token s i).1)/\aG b s (token s i).2 w w':=by
 have W:=aG.nh h;have R:=fF.nh w;have hbw:b<w.heap.size:=h.lt;have hs:s.size<=600:=h.len;have _hi:=hi;clear h;have c00:=W.o.1.c0;have c10:=W.o.1.c1;have GY:=W.o.1.f1;have GZ:=W.o.1.lt;have cs0:=W.o.1.len;have G5:=W.o.1.le;go_in;go_wp2_with fail;refine dK (ak s b (i) _ (i) _ (W.o.1) ⟨oo,oo,oo⟩) fun nq=>?_;go_wp2_with fail;refine aN (bF _ _) ?_;go_wp2_with fail;refine aN (gB _ _) ?_;go_wp2_with fail;refine dK (dO s b i _ (W.o.1.drewN _)) fun nq=>?_;go_wp2_with fail;refine dK (jY s b i _ (W.o.1.drewN _)) fun nq=>?_;go_wp2_with fail;refine dK (lI s b i _ (W.o.1.drewN _)) fun nq=>?_;go_wp2_with fail
 refine dK (gV s b (i) _ (i+1) _ (W.o.1.drewN _) ⟨oo,oo,oo⟩) fun nq=>?_;go_wp2_with fail;refine dK (gV s b (i) _ (i) _ (W.o.1.drewN _) ⟨oo,oo,oo⟩) fun nq=>?_;go_wp2_with fail;refine pmb (JJ s b i _ (W.o.1.drewN _)) fun w1 aj=>?_;have W1:Hid (aG b s (named s i).2 w w1):=(W.o.drewN _).trans aj;have R1:Hid (fF w1 w.heap.size):=(R.o.drewN _).turn aj.2 oo;clear aj;have r0:=R1.o.c0;have r1:=R1.o.c1;have r2:=R1.o.c2;have rf:=R1.o.f;have rl:=R1.o.lt;unfold aF;go_wp2_with fail;refine bodyPost_ret (v:=aF ((named s i).1)) (by simp[results,Tryz.results96,go_sem,aF,r0,r1,r2]) rfl ⟨?_,?_⟩
 .rw[HV.o]
 .rw[HV.o];exact((W1.o.dG hbw nl _ _).dG hbw nl _ _).dG hbw nl _ _
theorem Hu(s:ByteArray)(b i:Nat)(w:World)(h:Sc w b s i)(hi:i<s.size)(hbl:bJ (pk s i)=false)(rW:fU (pk s i)=false)(hha:(pk s i==35)=false)(hnu:fV s i=false)(hs4:jg s i=false)(hs3:jJ s i=false)(hat:(pk s i==64)=true)(hb1:iq s (i+1)=false)(hb0:iq s i=false)(HV:Hid (token s i=(Tok.w 15 (one s i),i+1))):
  Calls prog 96 #[.pointer (some ⟨b,0,none⟩)] w fun e w'=>e=.returned (aF (token s i).1)/\aG b s (token s i).2 w w':=by
 have W:=aG.nh h;have R:=fF.nh w;have hbw:b<w.heap.size:=h.lt;have hs:s.size<=600:=h.len;have _hi:=hi;clear h;have c00:=W.o.1.c0;have c10:=W.o.1.c1;have GY:=W.o.1.f1;have GZ:=W.o.1.lt;have cs0:=W.o.1.len;have G5:=W.o.1.le;go_in;go_wp2_with fail;refine dK (ak s b (i) _ (i) _ (W.o.1) ⟨oo,oo,oo⟩) fun nq=>?_;go_wp2_with fail;refine aN (bF _ _) ?_;go_wp2_with fail;refine aN (gB _ _) ?_;go_wp2_with fail;refine dK (dO s b i _ (W.o.1.drewN _)) fun nq=>?_;go_wp2_with fail;refine dK (jY s b i _ (W.o.1.drewN _)) fun nq=>?_;go_wp2_with fail;refine dK (lI s b i _ (W.o.1.drewN _)) fun nq=>?_;go_wp2_with fail
 refine dK (gV s b (i) _ (i+1) _ (W.o.1.drewN _) ⟨oo,oo,oo⟩) fun nq=>?_;go_wp2_with fail;refine dK (gV s b (i) _ (i) _ (W.o.1.drewN _) ⟨oo,oo,oo⟩) fun nq=>?_;go_wp2_with fail;refine pmb (x9 s b i _ (W.o.1.drewN _) hi) fun w1 aj=>?_;have W1:Hid (aG b s (i+1) w w1):=(W.o.drewN _).trans aj;have R1:Hid (fF w1 w.heap.size):=(R.o.drewN _).turn aj.2 oo;clear aj;have r0:=R1.o.c0;have r1:=R1.o.c1;have r2:=R1.o.c2;have rf:=R1.o.f;have rl:=R1.o.lt;go_wp2_with fail;refine bodyPost_ret (v:=aF (Tok.w 15 (one s i))) (by simp[results,Tryz.results96,go_sem,aF,Tok.w,r0,r1,r2];rfl) rfl ⟨?_,?_⟩
 .rw[HV.o]
 .rw[HV.o];exact((W1.o.dG hbw nl _ _).dG hbw nl _ _).dG hbw nl _ _
theorem LY(s:ByteArray)(b i:Nat)(w:World)(h:Sc w b s i)(hi:i<s.size)(hbl:bJ (pk s i)=false)(rW:fU (pk s i)=false)(hha:(pk s i==35)=true)(hgo:jD s (i+1)=false)(hnu:fV s i=true)(HV:Hid (token s i=Sp.numeric s i)):
  Calls prog 96 #[.pointer (some ⟨b,0,none⟩)] w fun e w'=>e=.returned (aF (token s i).1)/\aG b s (token s i).2 w w':=by
 have W:=aG.nh h;have R:=fF.nh w;have hbw:b<w.heap.size:=h.lt;have hs:s.size<=600:=h.len;have _hi:=hi;clear h;have c00:=W.o.1.c0;have c10:=W.o.1.c1;have GY:=W.o.1.f1;have GZ:=W.o.1.lt;have cs0:=W.o.1.len;have G5:=W.o.1.le;go_in;go_wp2_with fail;refine dK (ak s b (i) _ (i) _ (W.o.1) ⟨oo,oo,oo⟩) fun nq=>?_;go_wp2_with fail;refine aN (bF _ _) ?_;go_wp2_with fail;refine aN (gB _ _) ?_;go_wp2_with fail;refine dK (lG s b (i) _ (i+1) _ (W.o.1.drewN _) ⟨oo,oo,oo⟩) fun nq=>?_;go_wp2_with fail;refine dK (dO s b i _ (W.o.1.drewN _)) fun nq=>?_;go_wp2_with fail;refine pmb (IQ s b i _ (W.o.1.drewN _)) fun w1 aj=>?_
 have W1:Hid (aG b s (Sp.numeric s i).2 w w1):=(W.o.drewN _).trans aj;have R1:Hid (fF w1 w.heap.size):=(R.o.drewN _).turn aj.2 oo;clear aj;have r0:=R1.o.c0;have r1:=R1.o.c1;have r2:=R1.o.c2;have rf:=R1.o.f;have rl:=R1.o.lt;unfold aF;go_wp2_with fail;refine bodyPost_ret (v:=aF ((Sp.numeric s i).1)) (by simp[results,Tryz.results96,go_sem,aF,r0,r1,r2]) rfl ⟨?_,?_⟩
 .rw[HV.o]
 .rw[HV.o];exact((W1.o.dG hbw nl _ _).dG hbw nl _ _).dG hbw nl _ _
theorem JM(s:ByteArray)(b i:Nat)(w:World)(h:Sc w b s i)(hi:i<s.size)(hbl:bJ (pk s i)=false)(rW:fU (pk s i)=false)(hha:(pk s i==35)=true)(hgo:jD s (i+1)=false)(hnu:fV s i=false)(hs4:jg s i=true)(hl:i+4<=s.size)(HV:Hid (token s i=(Tok.k 8,i+4))):
  Calls prog 96 #[.pointer (some ⟨b,0,none⟩)] w fun e w'=>e=.returned (aF (token s i).1)/\aG b s (token s i).2 w w':=by
 have W:=aG.nh h;have R:=fF.nh w;have hbw:b<w.heap.size:=h.lt;have hs:s.size<=600:=h.len;have _hi:=hi;clear h;have c00:=W.o.1.c0;have c10:=W.o.1.c1;have GY:=W.o.1.f1;have GZ:=W.o.1.lt;have cs0:=W.o.1.len;have G5:=W.o.1.le;go_in;go_wp2_with fail;refine dK (ak s b (i) _ (i) _ (W.o.1) ⟨oo,oo,oo⟩) fun nq=>?_;go_wp2_with fail;refine aN (bF _ _) ?_;go_wp2_with fail;refine aN (gB _ _) ?_;go_wp2_with fail;refine dK (lG s b (i) _ (i+1) _ (W.o.1.drewN _) ⟨oo,oo,oo⟩) fun nq=>?_;go_wp2_with fail;refine dK (dO s b i _ (W.o.1.drewN _)) fun nq=>?_;go_wp2_with fail;refine dK (jY s b i _ (W.o.1.drewN _)) fun nq=>?_;have r0:=R.o.c0;have r1:=R.o.c1;have r2:=R.o.c2
 have rf:=R.o.f;have rl:=R.o.lt;go_wp2_with fail;refine bodyPost_ret (v:=aF (Tok.k 8)) (by simp[results,Tryz.results96,go_sem,aF,Tok.k,r0,r1,r2];rfl) rfl ⟨?_,?_⟩
 .rw[HV.o]
 .rw[HV.o];exact((((W.o.drewN _).jw _ (i+4) oo oo).dG hbw nl _ _).dG hbw nl _ _).dG hbw nl _ _
theorem Hw(s:ByteArray)(b i:Nat)(w:World)(h:Sc w b s i)(hi:i<s.size)(hbl:bJ (pk s i)=false)(rW:fU (pk s i)=false)(hha:(pk s i==35)=true)(hgo:jD s (i+1)=false)(hnu:fV s i=false)(hs4:jg s i=false)(hs3:jJ s i=true)(hl:i+3<=s.size)(HV:Hid (token s i=(Tok.k 9,i+3))):
  Calls prog 96 #[.pointer (some ⟨b,0,none⟩)] w fun e w'=>e=.returned (aF (token s i).1)/\aG b s (token s i).2 w w':=by
 have W:=aG.nh h;have R:=fF.nh w;have hbw:b<w.heap.size:=h.lt;have hs:s.size<=600:=h.len;have _hi:=hi;clear h;have c00:=W.o.1.c0;have c10:=W.o.1.c1;have GY:=W.o.1.f1;have GZ:=W.o.1.lt;have cs0:=W.o.1.len;have G5:=W.o.1.le;go_in;go_wp2_with fail;refine dK (ak s b (i) _ (i) _ (W.o.1) ⟨oo,oo,oo⟩) fun nq=>?_;go_wp2_with fail;refine aN (bF _ _) ?_;go_wp2_with fail;refine aN (gB _ _) ?_;go_wp2_with fail;refine dK (lG s b (i) _ (i+1) _ (W.o.1.drewN _) ⟨oo,oo,oo⟩) fun nq=>?_;go_wp2_with fail;refine dK (dO s b i _ (W.o.1.drewN _)) fun nq=>?_;go_wp2_with fail;refine dK (jY s b i _ (W.o.1.drewN _)) fun nq=>?_;go_wp2_with fail
 refine dK (lI s b i _ (W.o.1.drewN _)) fun nq=>?_;have r0:=R.o.c0;have r1:=R.o.c1;have r2:=R.o.c2;have rf:=R.o.f;have rl:=R.o.lt;go_wp2_with fail;refine bodyPost_ret (v:=aF (Tok.k 9)) (by simp[results,Tryz.results96,go_sem,aF,Tok.k,r0,r1,r2];rfl) rfl ⟨?_,?_⟩
 .rw[HV.o]
 .rw[HV.o];exact((((W.o.drewN _).jw _ (i+3) oo oo).dG hbw nl _ _).dG hbw nl _ _).dG hbw nl _ _
theorem EW(s:ByteArray)(b i:Nat)(w:World)(h:Sc w b s i)(hi:i<s.size)(hbl:bJ (pk s i)=false)(rW:fU (pk s i)=false)(hha:(pk s i==35)=true)(hgo:jD s (i+1)=false)(hnu:fV s i=false)(hs4:jg s i=false)(hs3:jJ s i=false)(hat:(pk s i==64)=false)(hb0:iq s i=true)(HV:Hid (token s i=named s i)):
  Calls prog 96 #[.pointer (some ⟨b,0,none⟩)] w fun e w'=>e=.returned (aF (token s i).1)/\aG b s (token s i).2 w w':=by
 have W:=aG.nh h;have R:=fF.nh w;have hbw:b<w.heap.size:=h.lt;have hs:s.size<=600:=h.len;have _hi:=hi;clear h;have c00:=W.o.1.c0;have c10:=W.o.1.c1;have GY:=W.o.1.f1;have GZ:=W.o.1.lt;have cs0:=W.o.1.len;have G5:=W.o.1.le;go_in;go_wp2_with fail;refine dK (ak s b (i) _ (i) _ (W.o.1) ⟨oo,oo,oo⟩) fun nq=>?_;go_wp2_with fail;refine aN (bF _ _) ?_;go_wp2_with fail;refine aN (gB _ _) ?_;go_wp2_with fail;refine dK (lG s b (i) _ (i+1) _ (W.o.1.drewN _) ⟨oo,oo,oo⟩) fun nq=>?_;go_wp2_with fail;refine dK (dO s b i _ (W.o.1.drewN _)) fun nq=>?_;go_wp2_with fail;refine dK (jY s b i _ (W.o.1.drewN _)) fun nq=>?_;go_wp2_with fail
 refine dK (lI s b i _ (W.o.1.drewN _)) fun nq=>?_;go_wp2_with fail;refine dK (gV s b (i) _ (i) _ (W.o.1.drewN _) ⟨oo,oo,oo⟩) fun nq=>?_;go_wp2_with fail;refine pmb (JJ s b i _ (W.o.1.drewN _)) fun w1 aj=>?_;have W1:Hid (aG b s (named s i).2 w w1):=(W.o.drewN _).trans aj;have R1:Hid (fF w1 w.heap.size):=(R.o.drewN _).turn aj.2 oo;clear aj;have r0:=R1.o.c0;have r1:=R1.o.c1;have r2:=R1.o.c2;have rf:=R1.o.f;have rl:=R1.o.lt;unfold aF;go_wp2_with fail;refine bodyPost_ret (v:=aF ((named s i).1)) (by simp[results,Tryz.results96,go_sem,aF,r0,r1,r2]) rfl ⟨?_,?_⟩
 .rw[HV.o]
 .rw[HV.o];exact((W1.o.dG hbw nl _ _).dG hbw nl _ _).dG hbw nl _ _
theorem H7(s:ByteArray)(b i:Nat)(w:World)(h:Sc w b s i)(hi:i<s.size)(hbl:bJ (pk s i)=false)(rW:fU (pk s i)=false)(hha:(pk s i==35)=true)(hgo:jD s (i+1)=false)(hnu:fV s i=false)(hs4:jg s i=false)(hs3:jJ s i=false)(hat:(pk s i==64)=false)(hb0:iq s i=false)(HV:Hid (token s i=(Tok.w 15 (one s i),i+1))):
  Calls prog 96 #[.pointer (some ⟨b,0,none⟩)] w fun e w'=>e=.returned (aF (token s i).1)/\aG b s (token s i).2 w w':=by
 have W:=aG.nh h;have R:=fF.nh w;have hbw:b<w.heap.size:=h.lt;have hs:s.size<=600:=h.len;have _hi:=hi;clear h;have c00:=W.o.1.c0;have c10:=W.o.1.c1;have GY:=W.o.1.f1;have GZ:=W.o.1.lt;have cs0:=W.o.1.len;have G5:=W.o.1.le;go_in;go_wp2_with fail;refine dK (ak s b (i) _ (i) _ (W.o.1) ⟨oo,oo,oo⟩) fun nq=>?_;go_wp2_with fail;refine aN (bF _ _) ?_;go_wp2_with fail;refine aN (gB _ _) ?_;go_wp2_with fail;refine dK (lG s b (i) _ (i+1) _ (W.o.1.drewN _) ⟨oo,oo,oo⟩) fun nq=>?_;go_wp2_with fail;refine dK (dO s b i _ (W.o.1.drewN _)) fun nq=>?_;go_wp2_with fail;refine dK (jY s b i _ (W.o.1.drewN _)) fun nq=>?_;go_wp2_with fail
 refine dK (lI s b i _ (W.o.1.drewN _)) fun nq=>?_;go_wp2_with fail;refine dK (gV s b (i) _ (i) _ (W.o.1.drewN _) ⟨oo,oo,oo⟩) fun nq=>?_;go_wp2_with fail;refine pmb (x9 s b i _ (W.o.1.drewN _) hi) fun w1 aj=>?_;have W1:Hid (aG b s (i+1) w w1):=(W.o.drewN _).trans aj;have R1:Hid (fF w1 w.heap.size):=(R.o.drewN _).turn aj.2 oo;clear aj;have r0:=R1.o.c0;have r1:=R1.o.c1;have r2:=R1.o.c2;have rf:=R1.o.f;have rl:=R1.o.lt;go_wp2_with fail;refine bodyPost_ret (v:=aF (Tok.w 15 (one s i))) (by simp[results,Tryz.results96,go_sem,aF,Tok.w,r0,r1,r2];rfl) rfl ⟨?_,?_⟩
 .rw[HV.o]
 .rw[HV.o];exact((W1.o.dG hbw nl _ _).dG hbw nl _ _).dG hbw nl _ _
theorem Zi(s:ByteArray)(b i:Nat)(w:World)(h:Sc w b s i)(hi:i<s.size):
  Calls prog 96 #[.pointer (some ⟨b,0,none⟩)] w fun e w'=>e=.returned (aF (token s i).1)/\aG b s (token s i).2 w w':=by
 have T:token s i=token s i:=rfl;conv at T=>rhs;unfold token
 cases hbl:bJ (pk s i)
 .rw[hbl]at T;cases rW:fU (pk s i)
  .rw[rW]at T;have key:∀(_:pk s i=35->jD s (i+1)=false),Calls prog 96 #[.pointer (some ⟨b,0,none⟩)] w fun e w'=>e=.returned (aF (token s i).1)/\aG b s (token s i).2 w w':=by
    intro hno;rw[if_neg (by simp),if_neg (by simp),if_neg (fun h=>by simp[hno h.1]at h)]at T;cases hnu:fV s i
    .rw[hnu,if_neg (by simp)]at T;cases hs4:jg s i
     .rw[hs4,if_neg (by simp)]at T;cases hs3:jJ s i
      .rw[hs3,if_neg (by simp)]at T;by_cases hat:pk s i=64
       .have hha:(pk s i==35)=false:=by rw[hat];rfl
        have hat':(pk s i==64)=true:=by rw[hat];rfl
        cases hb1:iq s (i+1)
        .rw[if_neg (by simp[hb1])]at T;cases hb0:iq s i
         .rw[hb0,if_neg (by simp)]at T;exact Hu s b i w h hi hbl rW hha hnu hs4 hs3 hat' hb1 hb0 T
         .rw[hb0,if_pos rfl]at T;exact EU s b i w h hi hbl rW hha hnu hs4 hs3 hat' hb1 hb0 T
        .rw[if_pos ⟨hat,hb1⟩]at T;exact Pj s b i w h hi hbl rW hha hnu hs4 hs3 hat' hb1 T
       .have hat':(pk s i==64)=false:=by simpa using hat
        rw[if_neg (fun h=>hat h.1)]at T;cases hb0:iq s i
        .rw[hb0,if_neg (by simp)]at T;cases hha:(pk s i==35)
         .exact Hr s b i w h hi hbl rW hha hnu hs4 hs3 hat' hb0 T
         .exact H7 s b i w h hi hbl rW hha (hno (by simpa using hha)) hnu hs4 hs3 hat' hb0 T
        .rw[hb0,if_pos rfl]at T;cases hha:(pk s i==35)
         .exact ET s b i w h hi hbl rW hha hnu hs4 hs3 hat' hb0 T
         .exact EW s b i w h hi hbl rW hha (hno (by simpa using hha)) hnu hs4 hs3 hat' hb0 T
      .have hl:i+3<=s.size:=by
        have h3:=hs3;simp[jJ]at h3;have:=dX (s:=s) (i:=i+2) oo;omega
       rw[hs3,if_pos rfl]at T;cases hha:(pk s i==35)
       .exact Hg s b i w h hi hbl rW hha hnu hs4 hs3 hl T
       .exact Hw s b i w h hi hbl rW hha (hno (by simpa using hha)) hnu hs4 hs3 hl T
     .have hl:i+4<=s.size:=by
       have h4:=hs4;simp[jg]at h4;have:=dX (s:=s) (i:=i+3) oo;omega
      rw[hs4,if_pos rfl]at T;cases hha:(pk s i==35)
      .exact JL s b i w h hi hbl rW hha hnu hs4 hl T
      .exact JM s b i w h hi hbl rW hha (hno (by simpa using hha)) hnu hs4 hl T
    .rw[hnu,if_pos rfl]at T;cases hha:(pk s i==35)
     .exact LX s b i w h hi hbl rW hha hnu T
     .exact LY s b i w h hi hbl rW hha (hno (by simpa using hha)) hnu T
   by_cases hha:pk s i=35
   .cases hgo:jD s (i+1)
    .exact key (fun _=>hgo)
    .rw[if_neg (by simp),if_neg (by simp),if_pos ⟨hha,hgo⟩]at T;exact Ph s b i w h hi hbl rW (by rw[hha];rfl) hgo T
   .exact key (fun h=>absurd h hha)
  .rw[rW,if_neg (by simp),if_pos rfl]at T;exact Pg s b i w h hi hbl rW T
 .rw[hbl,if_pos rfl]at T;exact LW s b i w h hi hbl T
end Go.Proofs.YtlliliddljkbfaaGreatDoor
