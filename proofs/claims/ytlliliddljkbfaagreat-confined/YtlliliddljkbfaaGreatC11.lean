import Derived.Test.YtlliliddljkbfaaGreatC10
set_option maxHeartbeats 64000000
set_option maxRecDepth 100000
namespace Go.Proofs.YtlliliddljkbfaaGreat
open Go.Proofs.Tryz (prog)
open Go.RowKit Sp
theorem amG(s:BY)(i:Nat):pre s i [60,33,45,45]=kG s i:=by simp[pre,kG,Bool.and_assoc]
theorem amH(s:BY)(i:Nat):pre s i [45,45,62]=kL s i:=by simp[pre,kL,Bool.and_assoc]
theorem jH(s:BY)(b i:Nat)(w:WD)(h:Sc w b s i):
  Calls prog 173 #[.pointer (some ⟨b,0,none⟩),.string ⟨#[60,33,45,45]⟩] w fun e w'=>e=.returned (.bool (kG s i))/\∃n,w'=w.drewN n:=by
 rw[<-amG];exact xY s b i _ w h
theorem lF(s:BY)(b i:Nat)(w:WD)(h:Sc w b s i):
  Calls prog 173 #[.pointer (some ⟨b,0,none⟩),.string ⟨#[45,45,62]⟩] w fun e w'=>e=.returned (.bool (kL s i))/\∃n,w'=w.drewN n:=by
 rw[<-amH];exact xY s b i _ w h
theorem RF(s:BY)(b i:Nat)(w:WD)(h:Sc w b s i)(hi:i<s.size)(hbl:aO (pk s i)=true)(HV:Hid (token s i=(Tok.k 1,Sp.blk s i))):
  Calls prog 114 #[.pointer (some ⟨b,0,none⟩)] w fun e w'=>e=.returned (bF (token s i).1)/\aB b s (token s i).2 w w':=by
 have W:=aB.nh h;have R:=gX.nh w;have hbw:b<w.heap.size:=h.lt;have hs:s.size<=600:=h.len;have _hi:=hi;clear h;have c00:=W.o.1.c0;have c10:=W.o.1.c1;have KY:=W.o.1.f1;have KZ:=W.o.1.lt;have cs0:=W.o.1.len;have La:=W.o.1.le;go_in;go_wp2_with fail;refine cZ (ak s b (i) _ (i) _ (W.o.1) ⟨oo,oo,oo⟩) fun nq=>?_;go_wp2_with fail;refine jA (aW _ _) ?_;go_wp2_with fail;refine pmb (lg s b i _ (W.o.1.drewN _)) fun w1 aj=>?_;have W1:Hid (aB b s (Sp.blk s i) w w1):=(W.o.drewN _).trans aj;have R1:Hid (gX w1 w.heap.size):=(R.o.drewN _).turn aj.2 oo;clear aj;have r0:=R1.o.c0;have r1:=R1.o.c1;have r2:=R1.o.c2;have rf:=R1.o.f;have rl:=R1.o.lt;go_wp2_with fail
 refine bodyPost_ret (v:=bF (Tok.k 1)) (by simp[results,Tryz.results114,go_sem,bF,Tok.k,r0,r1,r2];rfl) rfl ⟨?_,?_⟩
 .rw[HV.o]
 .rw[HV.o];exact((W1.o.cu hbw nl _ _).cu hbw nl _ _).cu hbw nl _ _
theorem V8(s:BY)(b i:Nat)(w:WD)(h:Sc w b s i)(hi:i<s.size)(hbl:aO (pk s i)=false)(zX:dD (pk s i)=true)(HV:Hid (token s i=txt s (pk s i) (i+1))):
  Calls prog 114 #[.pointer (some ⟨b,0,none⟩)] w fun e w'=>e=.returned (bF (token s i).1)/\aB b s (token s i).2 w w':=by
 have W:=aB.nh h;have R:=gX.nh w;have hbw:b<w.heap.size:=h.lt;have hs:s.size<=600:=h.len;have _hi:=hi;clear h;have c00:=W.o.1.c0;have c10:=W.o.1.c1;have KY:=W.o.1.f1;have KZ:=W.o.1.lt;have cs0:=W.o.1.len;have La:=W.o.1.le;go_in;go_wp2_with fail;refine cZ (ak s b (i) _ (i) _ (W.o.1) ⟨oo,oo,oo⟩) fun nq=>?_;go_wp2_with fail;refine jA (aW _ _) ?_;go_wp2_with fail;refine jA (fH _ _) ?_;go_wp2_with fail;refine pmb (ajf s b i _ (W.o.1.drewN _) hi) fun w1 aj=>?_;have W1:Hid (aB b s (txt s (pk s i) (i+1)).2 w w1):=(W.o.drewN _).trans aj;have R1:Hid (gX w1 w.heap.size):=(R.o.drewN _).turn aj.2 oo;clear aj;have r0:=R1.o.c0;have r1:=R1.o.c1;have r2:=R1.o.c2;have rf:=R1.o.f;have rl:=R1.o.lt;unfold bF;go_wp2_with fail
 refine bodyPost_ret (v:=bF ((txt s (pk s i) (i+1)).1)) (by simp[results,Tryz.results114,go_sem,bF,r0,r1,r2]) rfl ⟨?_,?_⟩
 .rw[HV.o]
 .rw[HV.o];exact((W1.o.cu hbw nl _ _).cu hbw nl _ _).cu hbw nl _ _
theorem V9(s:BY)(b i:Nat)(w:WD)(h:Sc w b s i)(hi:i<s.size)(hbl:aO (pk s i)=false)(zX:dD (pk s i)=false)(hha:(pk s i==35)=true)(hgo:jT s (i+1)=true)(HV:Hid (token s i=(Tok.w 4 (Sp.name s (i+1)).1,(Sp.name s (i+1)).2))):
  Calls prog 114 #[.pointer (some ⟨b,0,none⟩)] w fun e w'=>e=.returned (bF (token s i).1)/\aB b s (token s i).2 w w':=by
 have W:=aB.nh h;have R:=gX.nh w;have hbw:b<w.heap.size:=h.lt;have hs:s.size<=600:=h.len;have _hi:=hi;clear h;have c00:=W.o.1.c0;have c10:=W.o.1.c1;have KY:=W.o.1.f1;have KZ:=W.o.1.lt;have cs0:=W.o.1.len;have La:=W.o.1.le;go_in;go_wp2_with fail;refine cZ (ak s b (i) _ (i) _ (W.o.1) ⟨oo,oo,oo⟩) fun nq=>?_;go_wp2_with fail;refine jA (aW _ _) ?_;go_wp2_with fail;refine jA (fH _ _) ?_;go_wp2_with fail;refine cZ (kZ s b (i) _ (i+1) _ (W.o.1.drewN _) ⟨oo,oo,oo⟩) fun nq=>?_;go_wp2_with fail;refine pmb (Ar s b (i+1) _ ((W.o.1.drewN _).iP _ (i+1) oo oo)) fun w1 aj=>?_;have W1:Hid (aB b s (Sp.name s (i+1)).2 w w1):=((W.o.drewN _).iP _ (i+1) oo oo).trans aj
 have R1:Hid (gX w1 w.heap.size):=((R.o.drewN _).set oo _).turn aj.2 oo;clear aj;have r0:=R1.o.c0;have r1:=R1.o.c1;have r2:=R1.o.c2;have rf:=R1.o.f;have rl:=R1.o.lt;go_wp2_with fail;refine bodyPost_ret (v:=bF (Tok.w 4 (Sp.name s (i+1)).1)) (by simp[results,Tryz.results114,go_sem,bF,Tok.w,r0,r1,r2];rfl) rfl ⟨?_,?_⟩
 .rw[HV.o]
 .rw[HV.o];exact((W1.o.cu hbw nl _ _).cu hbw nl _ _).cu hbw nl _ _
theorem RG(s:BY)(b i:Nat)(w:WD)(h:Sc w b s i)(hi:i<s.size)(hbl:aO (pk s i)=false)(zX:dD (pk s i)=false)(hha:(pk s i==35)=false)(hnu:iO s i=true)(HV:Hid (token s i=Sp.numeric s i)):
  Calls prog 114 #[.pointer (some ⟨b,0,none⟩)] w fun e w'=>e=.returned (bF (token s i).1)/\aB b s (token s i).2 w w':=by
 have W:=aB.nh h;have R:=gX.nh w;have hbw:b<w.heap.size:=h.lt;have hs:s.size<=600:=h.len;have _hi:=hi;clear h;have c00:=W.o.1.c0;have c10:=W.o.1.c1;have KY:=W.o.1.f1;have KZ:=W.o.1.lt;have cs0:=W.o.1.len;have La:=W.o.1.le;go_in;go_wp2_with fail;refine cZ (ak s b (i) _ (i) _ (W.o.1) ⟨oo,oo,oo⟩) fun nq=>?_;go_wp2_with fail;refine jA (aW _ _) ?_;go_wp2_with fail;refine jA (fH _ _) ?_;go_wp2_with fail;refine cZ (dn s b i _ (W.o.1.drewN _)) fun nq=>?_;go_wp2_with fail;refine pmb (Nh s b i _ (W.o.1.drewN _)) fun w1 aj=>?_;have W1:Hid (aB b s (Sp.numeric s i).2 w w1):=(W.o.drewN _).trans aj;have R1:Hid (gX w1 w.heap.size):=(R.o.drewN _).turn aj.2 oo;clear aj;have r0:=R1.o.c0
 have r1:=R1.o.c1;have r2:=R1.o.c2;have rf:=R1.o.f;have rl:=R1.o.lt;unfold bF;go_wp2_with fail;refine bodyPost_ret (v:=bF ((Sp.numeric s i).1)) (by simp[results,Tryz.results114,go_sem,bF,r0,r1,r2]) rfl ⟨?_,?_⟩
 .rw[HV.o]
 .rw[HV.o];exact((W1.o.cu hbw nl _ _).cu hbw nl _ _).cu hbw nl _ _
theorem OG(s:BY)(b i:Nat)(w:WD)(h:Sc w b s i)(hi:i<s.size)(hbl:aO (pk s i)=false)(zX:dD (pk s i)=false)(hha:(pk s i==35)=false)(hnu:iO s i=false)(hs4:kG s i=true)(hl:i+4<=s.size)(HV:Hid (token s i=(Tok.k 8,i+4))):
  Calls prog 114 #[.pointer (some ⟨b,0,none⟩)] w fun e w'=>e=.returned (bF (token s i).1)/\aB b s (token s i).2 w w':=by
 have W:=aB.nh h;have R:=gX.nh w;have hbw:b<w.heap.size:=h.lt;have hs:s.size<=600:=h.len;have _hi:=hi;clear h;have c00:=W.o.1.c0;have c10:=W.o.1.c1;have KY:=W.o.1.f1;have KZ:=W.o.1.lt;have cs0:=W.o.1.len;have La:=W.o.1.le;go_in;go_wp2_with fail;refine cZ (ak s b (i) _ (i) _ (W.o.1) ⟨oo,oo,oo⟩) fun nq=>?_;go_wp2_with fail;refine jA (aW _ _) ?_;go_wp2_with fail;refine jA (fH _ _) ?_;go_wp2_with fail;refine cZ (dn s b i _ (W.o.1.drewN _)) fun nq=>?_;go_wp2_with fail;refine cZ (jH s b i _ (W.o.1.drewN _)) fun nq=>?_;have r0:=R.o.c0;have r1:=R.o.c1;have r2:=R.o.c2;have rf:=R.o.f;have rl:=R.o.lt;go_wp2_with fail
 refine bodyPost_ret (v:=bF (Tok.k 8)) (by simp[results,Tryz.results114,go_sem,bF,Tok.k,r0,r1,r2];rfl) rfl ⟨?_,?_⟩
 .rw[HV.o]
 .rw[HV.o];exact((((W.o.drewN _).iP _ (i+4) oo oo).cu hbw nl _ _).cu hbw nl _ _).cu hbw nl _ _
theorem Lp(s:BY)(b i:Nat)(w:WD)(h:Sc w b s i)(hi:i<s.size)(hbl:aO (pk s i)=false)(zX:dD (pk s i)=false)(hha:(pk s i==35)=false)(hnu:iO s i=false)(hs4:kG s i=false)(hs3:kL s i=true)(hl:i+3<=s.size)(HV:Hid (token s i=(Tok.k 9,i+3))):
  Calls prog 114 #[.pointer (some ⟨b,0,none⟩)] w fun e w'=>e=.returned (bF (token s i).1)/\aB b s (token s i).2 w w':=by
 have W:=aB.nh h;have R:=gX.nh w;have hbw:b<w.heap.size:=h.lt;have hs:s.size<=600:=h.len;have _hi:=hi;clear h;have c00:=W.o.1.c0;have c10:=W.o.1.c1;have KY:=W.o.1.f1;have KZ:=W.o.1.lt;have cs0:=W.o.1.len;have La:=W.o.1.le;go_in;go_wp2_with fail;refine cZ (ak s b (i) _ (i) _ (W.o.1) ⟨oo,oo,oo⟩) fun nq=>?_;go_wp2_with fail;refine jA (aW _ _) ?_;go_wp2_with fail;refine jA (fH _ _) ?_;go_wp2_with fail;refine cZ (dn s b i _ (W.o.1.drewN _)) fun nq=>?_;go_wp2_with fail;refine cZ (jH s b i _ (W.o.1.drewN _)) fun nq=>?_;go_wp2_with fail;refine cZ (lF s b i _ (W.o.1.drewN _)) fun nq=>?_;have r0:=R.o.c0;have r1:=R.o.c1;have r2:=R.o.c2;have rf:=R.o.f;have rl:=R.o.lt
 go_wp2_with fail;refine bodyPost_ret (v:=bF (Tok.k 9)) (by simp[results,Tryz.results114,go_sem,bF,Tok.k,r0,r1,r2];rfl) rfl ⟨?_,?_⟩
 .rw[HV.o]
 .rw[HV.o];exact((((W.o.drewN _).iP _ (i+3) oo oo).cu hbw nl _ _).cu hbw nl _ _).cu hbw nl _ _
theorem Wh(s:BY)(b i:Nat)(w:WD)(h:Sc w b s i)(hi:i<s.size)(hbl:aO (pk s i)=false)(zX:dD (pk s i)=false)(hha:(pk s i==35)=false)(hnu:iO s i=false)(hs4:kG s i=false)(hs3:kL s i=false)(hat:(pk s i==64)=true)(hb1:iG s (i+1)=true)(HV:Hid (token s i=(Tok.w 10 (Sp.name s (i+1)).1,(Sp.name s (i+1)).2))):
  Calls prog 114 #[.pointer (some ⟨b,0,none⟩)] w fun e w'=>e=.returned (bF (token s i).1)/\aB b s (token s i).2 w w':=by
 have W:=aB.nh h;have R:=gX.nh w;have hbw:b<w.heap.size:=h.lt;have hs:s.size<=600:=h.len;have _hi:=hi;clear h;have c00:=W.o.1.c0;have c10:=W.o.1.c1;have KY:=W.o.1.f1;have KZ:=W.o.1.lt;have cs0:=W.o.1.len;have La:=W.o.1.le;go_in;go_wp2_with fail;refine cZ (ak s b (i) _ (i) _ (W.o.1) ⟨oo,oo,oo⟩) fun nq=>?_;go_wp2_with fail;refine jA (aW _ _) ?_;go_wp2_with fail;refine jA (fH _ _) ?_;go_wp2_with fail;refine cZ (dn s b i _ (W.o.1.drewN _)) fun nq=>?_;go_wp2_with fail;refine cZ (jH s b i _ (W.o.1.drewN _)) fun nq=>?_;go_wp2_with fail;refine cZ (lF s b i _ (W.o.1.drewN _)) fun nq=>?_;go_wp2_with fail
 refine cZ (fP s b (i) _ (i+1) _ (W.o.1.drewN _) ⟨oo,oo,oo⟩) fun nq=>?_;go_wp2_with fail;refine pmb (Ar s b (i+1) _ ((W.o.1.drewN _).iP _ (i+1) oo oo)) fun w1 aj=>?_;have W1:Hid (aB b s (Sp.name s (i+1)).2 w w1):=((W.o.drewN _).iP _ (i+1) oo oo).trans aj;have R1:Hid (gX w1 w.heap.size):=((R.o.drewN _).set oo _).turn aj.2 oo;clear aj;have r0:=R1.o.c0;have r1:=R1.o.c1;have r2:=R1.o.c2;have rf:=R1.o.f;have rl:=R1.o.lt;go_wp2_with fail;refine bodyPost_ret (v:=bF (Tok.w 10 (Sp.name s (i+1)).1)) (by simp[results,Tryz.results114,go_sem,bF,Tok.w,r0,r1,r2];rfl) rfl ⟨?_,?_⟩
 .rw[HV.o]
 .rw[HV.o];exact((W1.o.cu hbw nl _ _).cu hbw nl _ _).cu hbw nl _ _
theorem IW(s:BY)(b i:Nat)(w:WD)(h:Sc w b s i)(hi:i<s.size)(hbl:aO (pk s i)=false)(zX:dD (pk s i)=false)(hha:(pk s i==35)=false)(hnu:iO s i=false)(hs4:kG s i=false)(hs3:kL s i=false)(hat:(pk s i==64)=false)(hb0:iG s i=true)(HV:Hid (token s i=named s i)):
  Calls prog 114 #[.pointer (some ⟨b,0,none⟩)] w fun e w'=>e=.returned (bF (token s i).1)/\aB b s (token s i).2 w w':=by
 have W:=aB.nh h;have R:=gX.nh w;have hbw:b<w.heap.size:=h.lt;have hs:s.size<=600:=h.len;have _hi:=hi;clear h;have c00:=W.o.1.c0;have c10:=W.o.1.c1;have KY:=W.o.1.f1;have KZ:=W.o.1.lt;have cs0:=W.o.1.len;have La:=W.o.1.le;go_in;go_wp2_with fail;refine cZ (ak s b (i) _ (i) _ (W.o.1) ⟨oo,oo,oo⟩) fun nq=>?_;go_wp2_with fail;refine jA (aW _ _) ?_;go_wp2_with fail;refine jA (fH _ _) ?_;go_wp2_with fail;refine cZ (dn s b i _ (W.o.1.drewN _)) fun nq=>?_;go_wp2_with fail;refine cZ (jH s b i _ (W.o.1.drewN _)) fun nq=>?_;go_wp2_with fail;refine cZ (lF s b i _ (W.o.1.drewN _)) fun nq=>?_;go_wp2_with fail
 refine cZ (fP s b (i) _ (i) _ (W.o.1.drewN _) ⟨oo,oo,oo⟩) fun nq=>?_;go_wp2_with fail;refine pmb (OE s b i _ (W.o.1.drewN _)) fun w1 aj=>?_;have W1:Hid (aB b s (named s i).2 w w1):=(W.o.drewN _).trans aj;have R1:Hid (gX w1 w.heap.size):=(R.o.drewN _).turn aj.2 oo;clear aj;have r0:=R1.o.c0;have r1:=R1.o.c1;have r2:=R1.o.c2;have rf:=R1.o.f;have rl:=R1.o.lt;unfold bF;go_wp2_with fail;refine bodyPost_ret (v:=bF ((named s i).1)) (by simp[results,Tryz.results114,go_sem,bF,r0,r1,r2]) rfl ⟨?_,?_⟩
 .rw[HV.o]
 .rw[HV.o];exact((W1.o.cu hbw nl _ _).cu hbw nl _ _).cu hbw nl _ _
theorem Lr(s:BY)(b i:Nat)(w:WD)(h:Sc w b s i)(hi:i<s.size)(hbl:aO (pk s i)=false)(zX:dD (pk s i)=false)(hha:(pk s i==35)=false)(hnu:iO s i=false)(hs4:kG s i=false)(hs3:kL s i=false)(hat:(pk s i==64)=false)(hb0:iG s i=false)(HV:Hid (token s i=(Tok.w 15 (one s i),i+1))):
  Calls prog 114 #[.pointer (some ⟨b,0,none⟩)] w fun e w'=>e=.returned (bF (token s i).1)/\aB b s (token s i).2 w w':=by
 have W:=aB.nh h;have R:=gX.nh w;have hbw:b<w.heap.size:=h.lt;have hs:s.size<=600:=h.len;have _hi:=hi;clear h;have c00:=W.o.1.c0;have c10:=W.o.1.c1;have KY:=W.o.1.f1;have KZ:=W.o.1.lt;have cs0:=W.o.1.len;have La:=W.o.1.le;go_in;go_wp2_with fail;refine cZ (ak s b (i) _ (i) _ (W.o.1) ⟨oo,oo,oo⟩) fun nq=>?_;go_wp2_with fail;refine jA (aW _ _) ?_;go_wp2_with fail;refine jA (fH _ _) ?_;go_wp2_with fail;refine cZ (dn s b i _ (W.o.1.drewN _)) fun nq=>?_;go_wp2_with fail;refine cZ (jH s b i _ (W.o.1.drewN _)) fun nq=>?_;go_wp2_with fail;refine cZ (lF s b i _ (W.o.1.drewN _)) fun nq=>?_;go_wp2_with fail
 refine cZ (fP s b (i) _ (i) _ (W.o.1.drewN _) ⟨oo,oo,oo⟩) fun nq=>?_;go_wp2_with fail;refine pmb (Ap s b i _ (W.o.1.drewN _) hi) fun w1 aj=>?_;have W1:Hid (aB b s (i+1) w w1):=(W.o.drewN _).trans aj;have R1:Hid (gX w1 w.heap.size):=(R.o.drewN _).turn aj.2 oo;clear aj;have r0:=R1.o.c0;have r1:=R1.o.c1;have r2:=R1.o.c2;have rf:=R1.o.f;have rl:=R1.o.lt;go_wp2_with fail;refine bodyPost_ret (v:=bF (Tok.w 15 (one s i))) (by simp[results,Tryz.results114,go_sem,bF,Tok.w,r0,r1,r2];rfl) rfl ⟨?_,?_⟩
 .rw[HV.o]
 .rw[HV.o];exact((W1.o.cu hbw nl _ _).cu hbw nl _ _).cu hbw nl _ _
theorem IX(s:BY)(b i:Nat)(w:WD)(h:Sc w b s i)(hi:i<s.size)(hbl:aO (pk s i)=false)(zX:dD (pk s i)=false)(hha:(pk s i==35)=false)(hnu:iO s i=false)(hs4:kG s i=false)(hs3:kL s i=false)(hat:(pk s i==64)=true)(hb1:iG s (i+1)=false)(hb0:iG s i=true)(HV:Hid (token s i=named s i)):
  Calls prog 114 #[.pointer (some ⟨b,0,none⟩)] w fun e w'=>e=.returned (bF (token s i).1)/\aB b s (token s i).2 w w':=by
 have W:=aB.nh h;have R:=gX.nh w;have hbw:b<w.heap.size:=h.lt;have hs:s.size<=600:=h.len;have _hi:=hi;clear h;have c00:=W.o.1.c0;have c10:=W.o.1.c1;have KY:=W.o.1.f1;have KZ:=W.o.1.lt;have cs0:=W.o.1.len;have La:=W.o.1.le;go_in;go_wp2_with fail;refine cZ (ak s b (i) _ (i) _ (W.o.1) ⟨oo,oo,oo⟩) fun nq=>?_;go_wp2_with fail;refine jA (aW _ _) ?_;go_wp2_with fail;refine jA (fH _ _) ?_;go_wp2_with fail;refine cZ (dn s b i _ (W.o.1.drewN _)) fun nq=>?_;go_wp2_with fail;refine cZ (jH s b i _ (W.o.1.drewN _)) fun nq=>?_;go_wp2_with fail;refine cZ (lF s b i _ (W.o.1.drewN _)) fun nq=>?_;go_wp2_with fail
 refine cZ (fP s b (i) _ (i+1) _ (W.o.1.drewN _) ⟨oo,oo,oo⟩) fun nq=>?_;go_wp2_with fail;refine cZ (fP s b (i) _ (i) _ (W.o.1.drewN _) ⟨oo,oo,oo⟩) fun nq=>?_;go_wp2_with fail;refine pmb (OE s b i _ (W.o.1.drewN _)) fun w1 aj=>?_;have W1:Hid (aB b s (named s i).2 w w1):=(W.o.drewN _).trans aj;have R1:Hid (gX w1 w.heap.size):=(R.o.drewN _).turn aj.2 oo;clear aj;have r0:=R1.o.c0;have r1:=R1.o.c1;have r2:=R1.o.c2;have rf:=R1.o.f;have rl:=R1.o.lt;unfold bF;go_wp2_with fail;refine bodyPost_ret (v:=bF ((named s i).1)) (by simp[results,Tryz.results114,go_sem,bF,r0,r1,r2]) rfl ⟨?_,?_⟩
 .rw[HV.o]
 .rw[HV.o];exact((W1.o.cu hbw nl _ _).cu hbw nl _ _).cu hbw nl _ _
theorem Ls(s:BY)(b i:Nat)(w:WD)(h:Sc w b s i)(hi:i<s.size)(hbl:aO (pk s i)=false)(zX:dD (pk s i)=false)(hha:(pk s i==35)=false)(hnu:iO s i=false)(hs4:kG s i=false)(hs3:kL s i=false)(hat:(pk s i==64)=true)(hb1:iG s (i+1)=false)(hb0:iG s i=false)(HV:Hid (token s i=(Tok.w 15 (one s i),i+1))):
  Calls prog 114 #[.pointer (some ⟨b,0,none⟩)] w fun e w'=>e=.returned (bF (token s i).1)/\aB b s (token s i).2 w w':=by
 have W:=aB.nh h;have R:=gX.nh w;have hbw:b<w.heap.size:=h.lt;have hs:s.size<=600:=h.len;have _hi:=hi;clear h;have c00:=W.o.1.c0;have c10:=W.o.1.c1;have KY:=W.o.1.f1;have KZ:=W.o.1.lt;have cs0:=W.o.1.len;have La:=W.o.1.le;go_in;go_wp2_with fail;refine cZ (ak s b (i) _ (i) _ (W.o.1) ⟨oo,oo,oo⟩) fun nq=>?_;go_wp2_with fail;refine jA (aW _ _) ?_;go_wp2_with fail;refine jA (fH _ _) ?_;go_wp2_with fail;refine cZ (dn s b i _ (W.o.1.drewN _)) fun nq=>?_;go_wp2_with fail;refine cZ (jH s b i _ (W.o.1.drewN _)) fun nq=>?_;go_wp2_with fail;refine cZ (lF s b i _ (W.o.1.drewN _)) fun nq=>?_;go_wp2_with fail
 refine cZ (fP s b (i) _ (i+1) _ (W.o.1.drewN _) ⟨oo,oo,oo⟩) fun nq=>?_;go_wp2_with fail;refine cZ (fP s b (i) _ (i) _ (W.o.1.drewN _) ⟨oo,oo,oo⟩) fun nq=>?_;go_wp2_with fail;refine pmb (Ap s b i _ (W.o.1.drewN _) hi) fun w1 aj=>?_;have W1:Hid (aB b s (i+1) w w1):=(W.o.drewN _).trans aj;have R1:Hid (gX w1 w.heap.size):=(R.o.drewN _).turn aj.2 oo;clear aj;have r0:=R1.o.c0;have r1:=R1.o.c1;have r2:=R1.o.c2;have rf:=R1.o.f;have rl:=R1.o.lt;go_wp2_with fail;refine bodyPost_ret (v:=bF (Tok.w 15 (one s i))) (by simp[results,Tryz.results114,go_sem,bF,Tok.w,r0,r1,r2];rfl) rfl ⟨?_,?_⟩
 .rw[HV.o]
 .rw[HV.o];exact((W1.o.cu hbw nl _ _).cu hbw nl _ _).cu hbw nl _ _
theorem RH(s:BY)(b i:Nat)(w:WD)(h:Sc w b s i)(hi:i<s.size)(hbl:aO (pk s i)=false)(zX:dD (pk s i)=false)(hha:(pk s i==35)=true)(hgo:jT s (i+1)=false)(hnu:iO s i=true)(HV:Hid (token s i=Sp.numeric s i)):
  Calls prog 114 #[.pointer (some ⟨b,0,none⟩)] w fun e w'=>e=.returned (bF (token s i).1)/\aB b s (token s i).2 w w':=by
 have W:=aB.nh h;have R:=gX.nh w;have hbw:b<w.heap.size:=h.lt;have hs:s.size<=600:=h.len;have _hi:=hi;clear h;have c00:=W.o.1.c0;have c10:=W.o.1.c1;have KY:=W.o.1.f1;have KZ:=W.o.1.lt;have cs0:=W.o.1.len;have La:=W.o.1.le;go_in;go_wp2_with fail;refine cZ (ak s b (i) _ (i) _ (W.o.1) ⟨oo,oo,oo⟩) fun nq=>?_;go_wp2_with fail;refine jA (aW _ _) ?_;go_wp2_with fail;refine jA (fH _ _) ?_;go_wp2_with fail;refine cZ (kZ s b (i) _ (i+1) _ (W.o.1.drewN _) ⟨oo,oo,oo⟩) fun nq=>?_;go_wp2_with fail;refine cZ (dn s b i _ (W.o.1.drewN _)) fun nq=>?_;go_wp2_with fail;refine pmb (Nh s b i _ (W.o.1.drewN _)) fun w1 aj=>?_
 have W1:Hid (aB b s (Sp.numeric s i).2 w w1):=(W.o.drewN _).trans aj;have R1:Hid (gX w1 w.heap.size):=(R.o.drewN _).turn aj.2 oo;clear aj;have r0:=R1.o.c0;have r1:=R1.o.c1;have r2:=R1.o.c2;have rf:=R1.o.f;have rl:=R1.o.lt;unfold bF;go_wp2_with fail;refine bodyPost_ret (v:=bF ((Sp.numeric s i).1)) (by simp[results,Tryz.results114,go_sem,bF,r0,r1,r2]) rfl ⟨?_,?_⟩
 .rw[HV.o]
 .rw[HV.o];exact((W1.o.cu hbw nl _ _).cu hbw nl _ _).cu hbw nl _ _
theorem OH(s:BY)(b i:Nat)(w:WD)(h:Sc w b s i)(hi:i<s.size)(hbl:aO (pk s i)=false)(zX:dD (pk s i)=false)(hha:(pk s i==35)=true)(hgo:jT s (i+1)=false)(hnu:iO s i=false)(hs4:kG s i=true)(hl:i+4<=s.size)(HV:Hid (token s i=(Tok.k 8,i+4))):
  Calls prog 114 #[.pointer (some ⟨b,0,none⟩)] w fun e w'=>e=.returned (bF (token s i).1)/\aB b s (token s i).2 w w':=by
 have W:=aB.nh h;have R:=gX.nh w;have hbw:b<w.heap.size:=h.lt;have hs:s.size<=600:=h.len;have _hi:=hi;clear h;have c00:=W.o.1.c0;have c10:=W.o.1.c1;have KY:=W.o.1.f1;have KZ:=W.o.1.lt;have cs0:=W.o.1.len;have La:=W.o.1.le;go_in;go_wp2_with fail;refine cZ (ak s b (i) _ (i) _ (W.o.1) ⟨oo,oo,oo⟩) fun nq=>?_;go_wp2_with fail;refine jA (aW _ _) ?_;go_wp2_with fail;refine jA (fH _ _) ?_;go_wp2_with fail;refine cZ (kZ s b (i) _ (i+1) _ (W.o.1.drewN _) ⟨oo,oo,oo⟩) fun nq=>?_;go_wp2_with fail;refine cZ (dn s b i _ (W.o.1.drewN _)) fun nq=>?_;go_wp2_with fail;refine cZ (jH s b i _ (W.o.1.drewN _)) fun nq=>?_;have r0:=R.o.c0;have r1:=R.o.c1;have r2:=R.o.c2
 have rf:=R.o.f;have rl:=R.o.lt;go_wp2_with fail;refine bodyPost_ret (v:=bF (Tok.k 8)) (by simp[results,Tryz.results114,go_sem,bF,Tok.k,r0,r1,r2];rfl) rfl ⟨?_,?_⟩
 .rw[HV.o]
 .rw[HV.o];exact((((W.o.drewN _).iP _ (i+4) oo oo).cu hbw nl _ _).cu hbw nl _ _).cu hbw nl _ _
theorem Lu(s:BY)(b i:Nat)(w:WD)(h:Sc w b s i)(hi:i<s.size)(hbl:aO (pk s i)=false)(zX:dD (pk s i)=false)(hha:(pk s i==35)=true)(hgo:jT s (i+1)=false)(hnu:iO s i=false)(hs4:kG s i=false)(hs3:kL s i=true)(hl:i+3<=s.size)(HV:Hid (token s i=(Tok.k 9,i+3))):
  Calls prog 114 #[.pointer (some ⟨b,0,none⟩)] w fun e w'=>e=.returned (bF (token s i).1)/\aB b s (token s i).2 w w':=by
 have W:=aB.nh h;have R:=gX.nh w;have hbw:b<w.heap.size:=h.lt;have hs:s.size<=600:=h.len;have _hi:=hi;clear h;have c00:=W.o.1.c0;have c10:=W.o.1.c1;have KY:=W.o.1.f1;have KZ:=W.o.1.lt;have cs0:=W.o.1.len;have La:=W.o.1.le;go_in;go_wp2_with fail;refine cZ (ak s b (i) _ (i) _ (W.o.1) ⟨oo,oo,oo⟩) fun nq=>?_;go_wp2_with fail;refine jA (aW _ _) ?_;go_wp2_with fail;refine jA (fH _ _) ?_;go_wp2_with fail;refine cZ (kZ s b (i) _ (i+1) _ (W.o.1.drewN _) ⟨oo,oo,oo⟩) fun nq=>?_;go_wp2_with fail;refine cZ (dn s b i _ (W.o.1.drewN _)) fun nq=>?_;go_wp2_with fail;refine cZ (jH s b i _ (W.o.1.drewN _)) fun nq=>?_;go_wp2_with fail
 refine cZ (lF s b i _ (W.o.1.drewN _)) fun nq=>?_;have r0:=R.o.c0;have r1:=R.o.c1;have r2:=R.o.c2;have rf:=R.o.f;have rl:=R.o.lt;go_wp2_with fail;refine bodyPost_ret (v:=bF (Tok.k 9)) (by simp[results,Tryz.results114,go_sem,bF,Tok.k,r0,r1,r2];rfl) rfl ⟨?_,?_⟩
 .rw[HV.o]
 .rw[HV.o];exact((((W.o.drewN _).iP _ (i+3) oo oo).cu hbw nl _ _).cu hbw nl _ _).cu hbw nl _ _
theorem IY(s:BY)(b i:Nat)(w:WD)(h:Sc w b s i)(hi:i<s.size)(hbl:aO (pk s i)=false)(zX:dD (pk s i)=false)(hha:(pk s i==35)=true)(hgo:jT s (i+1)=false)(hnu:iO s i=false)(hs4:kG s i=false)(hs3:kL s i=false)(hat:(pk s i==64)=false)(hb0:iG s i=true)(HV:Hid (token s i=named s i)):
  Calls prog 114 #[.pointer (some ⟨b,0,none⟩)] w fun e w'=>e=.returned (bF (token s i).1)/\aB b s (token s i).2 w w':=by
 have W:=aB.nh h;have R:=gX.nh w;have hbw:b<w.heap.size:=h.lt;have hs:s.size<=600:=h.len;have _hi:=hi;clear h;have c00:=W.o.1.c0;have c10:=W.o.1.c1;have KY:=W.o.1.f1;have KZ:=W.o.1.lt;have cs0:=W.o.1.len;have La:=W.o.1.le;go_in;go_wp2_with fail;refine cZ (ak s b (i) _ (i) _ (W.o.1) ⟨oo,oo,oo⟩) fun nq=>?_;go_wp2_with fail;refine jA (aW _ _) ?_;go_wp2_with fail;refine jA (fH _ _) ?_;go_wp2_with fail;refine cZ (kZ s b (i) _ (i+1) _ (W.o.1.drewN _) ⟨oo,oo,oo⟩) fun nq=>?_;go_wp2_with fail;refine cZ (dn s b i _ (W.o.1.drewN _)) fun nq=>?_;go_wp2_with fail;refine cZ (jH s b i _ (W.o.1.drewN _)) fun nq=>?_;go_wp2_with fail
 refine cZ (lF s b i _ (W.o.1.drewN _)) fun nq=>?_;go_wp2_with fail;refine cZ (fP s b (i) _ (i) _ (W.o.1.drewN _) ⟨oo,oo,oo⟩) fun nq=>?_;go_wp2_with fail;refine pmb (OE s b i _ (W.o.1.drewN _)) fun w1 aj=>?_;have W1:Hid (aB b s (named s i).2 w w1):=(W.o.drewN _).trans aj;have R1:Hid (gX w1 w.heap.size):=(R.o.drewN _).turn aj.2 oo;clear aj;have r0:=R1.o.c0;have r1:=R1.o.c1;have r2:=R1.o.c2;have rf:=R1.o.f;have rl:=R1.o.lt;unfold bF;go_wp2_with fail;refine bodyPost_ret (v:=bF ((named s i).1)) (by simp[results,Tryz.results114,go_sem,bF,r0,r1,r2]) rfl ⟨?_,?_⟩
 .rw[HV.o]
 .rw[HV.o];exact((W1.o.cu hbw nl _ _).cu hbw nl _ _).cu hbw nl _ _
theorem LC(s:BY)(b i:Nat)(w:WD)(h:Sc w b s i)(hi:i<s.size)(hbl:aO (pk s i)=false)(zX:dD (pk s i)=false)(hha:(pk s i==35)=true)(hgo:jT s (i+1)=false)(hnu:iO s i=false)(hs4:kG s i=false)(hs3:kL s i=false)(hat:(pk s i==64)=false)(hb0:iG s i=false)(HV:Hid (token s i=(Tok.w 15 (one s i),i+1))):
  Calls prog 114 #[.pointer (some ⟨b,0,none⟩)] w fun e w'=>e=.returned (bF (token s i).1)/\aB b s (token s i).2 w w':=by
 have W:=aB.nh h;have R:=gX.nh w;have hbw:b<w.heap.size:=h.lt;have hs:s.size<=600:=h.len;have _hi:=hi;clear h;have c00:=W.o.1.c0;have c10:=W.o.1.c1;have KY:=W.o.1.f1;have KZ:=W.o.1.lt;have cs0:=W.o.1.len;have La:=W.o.1.le;go_in;go_wp2_with fail;refine cZ (ak s b (i) _ (i) _ (W.o.1) ⟨oo,oo,oo⟩) fun nq=>?_;go_wp2_with fail;refine jA (aW _ _) ?_;go_wp2_with fail;refine jA (fH _ _) ?_;go_wp2_with fail;refine cZ (kZ s b (i) _ (i+1) _ (W.o.1.drewN _) ⟨oo,oo,oo⟩) fun nq=>?_;go_wp2_with fail;refine cZ (dn s b i _ (W.o.1.drewN _)) fun nq=>?_;go_wp2_with fail;refine cZ (jH s b i _ (W.o.1.drewN _)) fun nq=>?_;go_wp2_with fail
 refine cZ (lF s b i _ (W.o.1.drewN _)) fun nq=>?_;go_wp2_with fail;refine cZ (fP s b (i) _ (i) _ (W.o.1.drewN _) ⟨oo,oo,oo⟩) fun nq=>?_;go_wp2_with fail;refine pmb (Ap s b i _ (W.o.1.drewN _) hi) fun w1 aj=>?_;have W1:Hid (aB b s (i+1) w w1):=(W.o.drewN _).trans aj;have R1:Hid (gX w1 w.heap.size):=(R.o.drewN _).turn aj.2 oo;clear aj;have r0:=R1.o.c0;have r1:=R1.o.c1;have r2:=R1.o.c2;have rf:=R1.o.f;have rl:=R1.o.lt;go_wp2_with fail;refine bodyPost_ret (v:=bF (Tok.w 15 (one s i))) (by simp[results,Tryz.results114,go_sem,bF,Tok.w,r0,r1,r2];rfl) rfl ⟨?_,?_⟩
 .rw[HV.o]
 .rw[HV.o];exact((W1.o.cu hbw nl _ _).cu hbw nl _ _).cu hbw nl _ _
theorem agm(s:BY)(b i:Nat)(w:WD)(h:Sc w b s i)(hi:i<s.size):
  Calls prog 114 #[.pointer (some ⟨b,0,none⟩)] w fun e w'=>e=.returned (bF (token s i).1)/\aB b s (token s i).2 w w':=by
 have T:token s i=token s i:=rfl;conv at T=>rhs;unfold token
 cases hbl:aO (pk s i)
 .rw[hbl]at T;cases zX:dD (pk s i)
  .rw[zX]at T;have key:∀(_:pk s i=35->jT s (i+1)=false),Calls prog 114 #[.pointer (some ⟨b,0,none⟩)] w fun e w'=>e=.returned (bF (token s i).1)/\aB b s (token s i).2 w w':=by
    intro hno;rw[if_neg (by simp),if_neg (by simp),if_neg (fun h=>by simp[hno h.1]at h)]at T;cases hnu:iO s i
    .rw[hnu,if_neg (by simp)]at T;cases hs4:kG s i
     .rw[hs4,if_neg (by simp)]at T;cases hs3:kL s i
      .rw[hs3,if_neg (by simp)]at T;by_cases hat:pk s i=64
       .have hha:(pk s i==35)=false:=by rw[hat];rfl
        have hat':(pk s i==64)=true:=by rw[hat];rfl
        cases hb1:iG s (i+1)
        .rw[if_neg (by simp[hb1])]at T;cases hb0:iG s i
         .rw[hb0,if_neg (by simp)]at T;exact Ls s b i w h hi hbl zX hha hnu hs4 hs3 hat' hb1 hb0 T
         .rw[hb0,if_pos rfl]at T;exact IX s b i w h hi hbl zX hha hnu hs4 hs3 hat' hb1 hb0 T
        .rw[if_pos ⟨hat,hb1⟩]at T;exact Wh s b i w h hi hbl zX hha hnu hs4 hs3 hat' hb1 T
       .have hat':(pk s i==64)=false:=by simpa using hat
        rw[if_neg (fun h=>hat h.1)]at T;cases hb0:iG s i
        .rw[hb0,if_neg (by simp)]at T;cases hha:(pk s i==35)
         .exact Lr s b i w h hi hbl zX hha hnu hs4 hs3 hat' hb0 T
         .exact LC s b i w h hi hbl zX hha (hno (by simpa using hha)) hnu hs4 hs3 hat' hb0 T
        .rw[hb0,if_pos rfl]at T;cases hha:(pk s i==35)
         .exact IW s b i w h hi hbl zX hha hnu hs4 hs3 hat' hb0 T
         .exact IY s b i w h hi hbl zX hha (hno (by simpa using hha)) hnu hs4 hs3 hat' hb0 T
      .have hl:i+3<=s.size:=by
        have h3:=hs3;simp[kL]at h3;have:=dY (s:=s) (i:=i+2) oo;omega
       rw[hs3,if_pos rfl]at T;cases hha:(pk s i==35)
       .exact Lp s b i w h hi hbl zX hha hnu hs4 hs3 hl T
       .exact Lu s b i w h hi hbl zX hha (hno (by simpa using hha)) hnu hs4 hs3 hl T
     .have hl:i+4<=s.size:=by
       have h4:=hs4;simp[kG]at h4;have:=dY (s:=s) (i:=i+3) oo;omega
      rw[hs4,if_pos rfl]at T;cases hha:(pk s i==35)
      .exact OG s b i w h hi hbl zX hha hnu hs4 hl T
      .exact OH s b i w h hi hbl zX hha (hno (by simpa using hha)) hnu hs4 hl T
    .rw[hnu,if_pos rfl]at T;cases hha:(pk s i==35)
     .exact RG s b i w h hi hbl zX hha hnu T
     .exact RH s b i w h hi hbl zX hha (hno (by simpa using hha)) hnu T
   by_cases hha:pk s i=35
   .cases hgo:jT s (i+1)
    .exact key (fun _=>hgo)
    .rw[if_neg (by simp),if_neg (by simp),if_pos ⟨hha,hgo⟩]at T;exact V9 s b i w h hi hbl zX (by rw[hha];rfl) hgo T
   .exact key (fun h=>absurd h hha)
  .rw[zX,if_neg (by simp),if_pos rfl]at T;exact V8 s b i w h hi hbl zX T
 .rw[hbl,if_pos rfl]at T;exact RF s b i w h hi hbl T
