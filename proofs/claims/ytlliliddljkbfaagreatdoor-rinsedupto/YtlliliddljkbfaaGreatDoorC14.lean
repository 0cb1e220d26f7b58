import Derived.Test.YtlliliddljkbfaaGreatDoorC10
import Derived.Test.YtlliliddljkbfaaGreatDoorC11
namespace Go.Proofs.YtlliliddljkbfaaGreatDoor
set_option maxHeartbeats 64000000
set_option maxRecDepth 100000
open Go.Proofs.Tryz (prog)
open Go.RowKit Sp
theorem fQ(s:ByteArray)(b i:Nat)(w:World)(h:Sc w b s i):
  Calls prog 279 #[.pointer (some ⟨b,0,none⟩)] w fun e w'=>e=.returned (.tuple #[])/\aG b s (Sp.gJ s i) w w':=by
 have HS:Hid (Sc w b s i):=h;clear h;go_in;go_wp2_with fail;refine jK (fun Q' hF=>?_);go_wp2_with fail;go_loopg[] s.size (fun g wr=>∃k:Nat,s.size<=k+g/\Aside (uw s g k=Sp.gJ s i/\aG b s k w wr));case atStart=>exact⟨i,oo,rfl,aG.refl HS.o⟩
 case round=>
  obtain⟨k,hk,hA⟩:=hrel;have H1:Hid (uw s gk k=Sp.gJ s i):=hA.o.1;have H2:Hid (aG b s k w wr):=hA.o.2;clear hA;have h0:=H2.o.1.c0;have h1:=H2.o.1.c1;have hf:=H2.o.1.f1;have hl:=H2.o.1.lt;have hs:=H2.o.1.len;cases hbl:aP (pk s k)
  .have HV:Hid (Sp.gJ s i=k):=by
    show Sp.gJ s i=k;rw[<-H1.o];cases gk with
    |zero=>rfl
    |succ f=>unfold uw;rw[if_neg (by simp[hbl])]
   go_wp2_with fail;refine(ak s b k _ k _ H2.o.1 ⟨oo,oo,oo⟩).mono ?_;rintro e w1 ⟨rfl,n1,rfl⟩;go_wp2_with fail;refine(fG _ _).mono ?_;rintro e w1 ⟨rfl,rfl⟩;go_wp2_with fail;go_step3
   refine hF.go 0 _ _ _ rfl ?_;go_wp2
   simp only[Exit.noGoto];go_end0
   refine⟨rfl,?_⟩;rw[HV.o];exact H2.o.drewN _
  .have hlt:k<s.size:=dX (by have:=kR hbl;omega);obtain⟨f,rfl⟩:∃f,gk=f+1:=⟨gk-1,oo⟩;have HV:Hid (uw s f (k+1)=Sp.gJ s i):=by
    have:=H1.o;unfold uw at this;rw[if_pos hbl]at this;exact this
   go_wp2_with fail;refine(ak s b k _ k _ H2.o.1 ⟨oo,oo,oo⟩).mono ?_;rintro e w1 ⟨rfl,n1,rfl⟩;go_wp2_with fail;refine(fG _ _).mono ?_;rintro e w1 ⟨rfl,rfl⟩;go_wp2_with fail;go_roundg f;case measure=>omega
   case rel=>rw[OT];exact⟨k+1,oo,HV.o,(H2.o.drewN _).set (k+1) oo⟩
theorem jX(s:ByteArray)(b i:Nat)(w:World)(h:Sc w b s i):
  Calls prog 280 #[.pointer (some ⟨b,0,none⟩)] w fun e w'=>e=.returned (.tuple #[])/\aG b s (iQ s i) w w':=by
 have W:Hid (aG b s i w w):=aG.refl h;clear h;have c00:=W.o.1.c0;have c10:=W.o.1.c1;have GY:=W.o.1.f1;have GZ:=W.o.1.lt;have cs0:=W.o.1.len;have G5:=W.o.1.le;cases h1:(pk s i != 101)<;>cases h2:(pk s i != 69)
 .exfalso
  simp at h1 h2;omega
 .have E:Hid (pk s i=101):=by show pk s i=101;simpa using h1
  cases hsg:tN (pk s (i+1))
  .cases hd:aP (pk s (i+1))
   .have HV:Hid (iQ s i=i):=by show iQ s i=i;simp[iQ,E.o,fO,hsg,hd]
    go_in;go_wp2_with fail;refine dK (ak s b (i) _ (i) _ (W.o.1) ⟨oo,oo,oo⟩) fun nq=>?_;go_wp2_with fail;refine dK (ak s b (i) _ (i+1) _ (W.o.1.drewN _) ⟨oo,oo,oo⟩) fun nq=>?_;go_wp2_with fail;refine aN (iF _ _) ?_;go_wp2_with fail;refine dK (ak s b (i) _ (i+1) _ (W.o.1.drewN _) ⟨oo,oo,oo⟩) fun nq=>?_;go_wp2_with fail;refine aN (fG _ _) ?_;go_wp2_with fail;go_end0
    refine⟨rfl,?_⟩;rw[HV.o];exact W.o.drewN _
   .have hlt:i+1<s.size:=dX (by have:=kR hd;omega);have HV:Hid (iQ s i=gJ s (i+1)):=by show iQ s i=_;simp[iQ,E.o,fO,hsg,hd]
    go_in;go_wp2_with fail;refine dK (ak s b (i) _ (i) _ (W.o.1) ⟨oo,oo,oo⟩) fun nq=>?_;go_wp2_with fail;refine dK (ak s b (i) _ (i+1) _ (W.o.1.drewN _) ⟨oo,oo,oo⟩) fun nq=>?_;go_wp2_with fail;refine aN (iF _ _) ?_;go_wp2_with fail;refine dK (ak s b (i) _ (i+1) _ (W.o.1.drewN _) ⟨oo,oo,oo⟩) fun nq=>?_;go_wp2_with fail;refine aN (fG _ _) ?_;go_wp2_with fail;refine pmb (fQ s b (i+1) _ ((W.o.1.drewN _).jw _ (i+1) oo oo)) fun w1 aj=>?_;have W1:Hid (aG b s (gJ s (i+1)) w w1):=((W.o.drewN _).jw _ (i+1) oo oo).trans aj;clear aj;go_wp2_with fail;go_end0
    refine⟨rfl,?_⟩;rw[HV.o];exact W1.o
  .cases hd:aP (pk s (i+2))
   .have HV:Hid (iQ s i=i):=by show iQ s i=i;simp[iQ,E.o,fO,hsg,hd]
    go_in;go_wp2_with fail;refine dK (ak s b (i) _ (i) _ (W.o.1) ⟨oo,oo,oo⟩) fun nq=>?_;go_wp2_with fail;refine dK (ak s b (i) _ (i+1) _ (W.o.1.drewN _) ⟨oo,oo,oo⟩) fun nq=>?_;go_wp2_with fail;refine aN (iF _ _) ?_;go_wp2_with fail;refine dK (ak s b (i) _ (i+2) _ (W.o.1.drewN _) ⟨oo,oo,oo⟩) fun nq=>?_;go_wp2_with fail;refine aN (fG _ _) ?_;go_wp2_with fail;go_end0
    refine⟨rfl,?_⟩;rw[HV.o];exact W.o.drewN _
   .have hlt:i+2<s.size:=dX (by have:=kR hd;omega);have HV:Hid (iQ s i=gJ s (i+2)):=by show iQ s i=_;simp[iQ,E.o,fO,hsg,hd]
    go_in;go_wp2_with fail;refine dK (ak s b (i) _ (i) _ (W.o.1) ⟨oo,oo,oo⟩) fun nq=>?_;go_wp2_with fail;refine dK (ak s b (i) _ (i+1) _ (W.o.1.drewN _) ⟨oo,oo,oo⟩) fun nq=>?_;go_wp2_with fail;refine aN (iF _ _) ?_;go_wp2_with fail;refine dK (ak s b (i) _ (i+2) _ (W.o.1.drewN _) ⟨oo,oo,oo⟩) fun nq=>?_;go_wp2_with fail;refine aN (fG _ _) ?_;go_wp2_with fail;refine pmb (fQ s b (i+2) _ ((W.o.1.drewN _).jw _ (i+2) oo oo)) fun w1 aj=>?_;have W1:Hid (aG b s (gJ s (i+2)) w w1):=((W.o.drewN _).jw _ (i+2) oo oo).trans aj;clear aj;go_wp2_with fail;go_end0
    refine⟨rfl,?_⟩;rw[HV.o];exact W1.o
 .have E:Hid (pk s i=69):=by show pk s i=69;simpa using h2
  cases hsg:tN (pk s (i+1))
  .cases hd:aP (pk s (i+1))
   .have HV:Hid (iQ s i=i):=by show iQ s i=i;simp[iQ,E.o,fO,hsg,hd]
    go_in;go_wp2_with fail;refine dK (ak s b (i) _ (i) _ (W.o.1) ⟨oo,oo,oo⟩) fun nq=>?_;go_wp2_with fail;refine dK (ak s b (i) _ (i) _ (W.o.1.drewN _) ⟨oo,oo,oo⟩) fun nq=>?_;go_wp2_with fail;refine dK (ak s b (i) _ (i+1) _ (W.o.1.drewN _) ⟨oo,oo,oo⟩) fun nq=>?_;go_wp2_with fail;refine aN (iF _ _) ?_;go_wp2_with fail;refine dK (ak s b (i) _ (i+1) _ (W.o.1.drewN _) ⟨oo,oo,oo⟩) fun nq=>?_;go_wp2_with fail;refine aN (fG _ _) ?_;go_wp2_with fail;go_end0
    refine⟨rfl,?_⟩;rw[HV.o];exact W.o.drewN _
   .have hlt:i+1<s.size:=dX (by have:=kR hd;omega);have HV:Hid (iQ s i=gJ s (i+1)):=by show iQ s i=_;simp[iQ,E.o,fO,hsg,hd]
    go_in;go_wp2_with fail;refine dK (ak s b (i) _ (i) _ (W.o.1) ⟨oo,oo,oo⟩) fun nq=>?_;go_wp2_with fail;refine dK (ak s b (i) _ (i) _ (W.o.1.drewN _) ⟨oo,oo,oo⟩) fun nq=>?_;go_wp2_with fail;refine dK (ak s b (i) _ (i+1) _ (W.o.1.drewN _) ⟨oo,oo,oo⟩) fun nq=>?_;go_wp2_with fail;refine aN (iF _ _) ?_;go_wp2_with fail;refine dK (ak s b (i) _ (i+1) _ (W.o.1.drewN _) ⟨oo,oo,oo⟩) fun nq=>?_;go_wp2_with fail;refine aN (fG _ _) ?_;go_wp2_with fail;refine pmb (fQ s b (i+1) _ ((W.o.1.drewN _).jw _ (i+1) oo oo)) fun w1 aj=>?_;have W1:Hid (aG b s (gJ s (i+1)) w w1):=((W.o.drewN _).jw _ (i+1) oo oo).trans aj;clear aj;go_wp2_with fail
    go_end0
    refine⟨rfl,?_⟩;rw[HV.o];exact W1.o
  .cases hd:aP (pk s (i+2))
   .have HV:Hid (iQ s i=i):=by show iQ s i=i;simp[iQ,E.o,fO,hsg,hd]
    go_in;go_wp2_with fail;refine dK (ak s b (i) _ (i) _ (W.o.1) ⟨oo,oo,oo⟩) fun nq=>?_;go_wp2_with fail;refine dK (ak s b (i) _ (i) _ (W.o.1.drewN _) ⟨oo,oo,oo⟩) fun nq=>?_;go_wp2_with fail;refine dK (ak s b (i) _ (i+1) _ (W.o.1.drewN _) ⟨oo,oo,oo⟩) fun nq=>?_;go_wp2_with fail;refine aN (iF _ _) ?_;go_wp2_with fail;refine dK (ak s b (i) _ (i+2) _ (W.o.1.drewN _) ⟨oo,oo,oo⟩) fun nq=>?_;go_wp2_with fail;refine aN (fG _ _) ?_;go_wp2_with fail;go_end0
    refine⟨rfl,?_⟩;rw[HV.o];exact W.o.drewN _
   .have hlt:i+2<s.size:=dX (by have:=kR hd;omega);have HV:Hid (iQ s i=gJ s (i+2)):=by show iQ s i=_;simp[iQ,E.o,fO,hsg,hd]
    go_in;go_wp2_with fail;refine dK (ak s b (i) _ (i) _ (W.o.1) ⟨oo,oo,oo⟩) fun nq=>?_;go_wp2_with fail;refine dK (ak s b (i) _ (i) _ (W.o.1.drewN _) ⟨oo,oo,oo⟩) fun nq=>?_;go_wp2_with fail;refine dK (ak s b (i) _ (i+1) _ (W.o.1.drewN _) ⟨oo,oo,oo⟩) fun nq=>?_;go_wp2_with fail;refine aN (iF _ _) ?_;go_wp2_with fail;refine dK (ak s b (i) _ (i+2) _ (W.o.1.drewN _) ⟨oo,oo,oo⟩) fun nq=>?_;go_wp2_with fail;refine aN (fG _ _) ?_;go_wp2_with fail;refine pmb (fQ s b (i+2) _ ((W.o.1.drewN _).jw _ (i+2) oo oo)) fun w1 aj=>?_;have W1:Hid (aG b s (gJ s (i+2)) w w1):=((W.o.drewN _).jw _ (i+2) oo oo).trans aj;clear aj;go_wp2_with fail
    go_end0
    refine⟨rfl,?_⟩;rw[HV.o];exact W1.o
 .have HV:Hid (iQ s i=i):=by
   show iQ s i=i;have g1:pk s i≠101:=by simpa using h1
   have g2:pk s i≠69:=by simpa using h2
   simp[iQ,g1,g2]
  go_in;go_wp2_with fail;refine dK (ak s b (i) _ (i) _ (W.o.1) ⟨oo,oo,oo⟩) fun nq=>?_;go_wp2_with fail;refine dK (ak s b (i) _ (i) _ (W.o.1.drewN _) ⟨oo,oo,oo⟩) fun nq=>?_;go_wp2_with fail;refine bodyPost_ret (results_none rfl _ _ _) rfl ?_;refine⟨rfl,?_⟩;rw[HV.o];exact W.o.drewN _
theorem aea{a b:ByteArray}(h:a=b):Ending.returned (.string a)=.returned (.string b):=by rw[h]
theorem EC(s:ByteArray)(b i:Nat)(w:World)(h:Sc w b s i):
  Calls prog 234 #[.pointer (some ⟨b,0,none⟩)] w fun e w'=>e=.returned (.string (s.extract i (dL s i)))/\aG b s (dL s i) w w':=by
 have W:Hid (aG b s i w w):=aG.refl h;clear h;have c00:=W.o.1.c0;have c10:=W.o.1.c1;have GY:=W.o.1.f1;have GZ:=W.o.1.lt;have cs0:=W.o.1.len;have G5:=W.o.1.le;have hge:=YH s i;have hle:=y8 W.o.1.le;cases hsg:tN (pk s i)
 .have hk:Hid (fO s i=i):=by show fO s i=i;simp[fO,hsg]
  have hd0:=uI (s:=s) (i:=i) oo;generalize hkk:gJ s (i)=k at hd0;have HK:Hid (gJ s (i)=k):=hkk;clear hkk;cases e46:(pk s k==46)
  .have HV:Hid (dL s i=iQ s k):=by show dL s i=_;simp only[dL,lM,hk.o,HK.o];rw[if_neg (fun h=>by simp[h.1]at e46)]
   go_in;go_wp2_with fail;refine dK (ak s b (i) _ (i) _ (W.o.1) ⟨oo,oo,oo⟩) fun nq=>?_;go_wp2_with fail;refine aN (iF _ _) ?_;go_wp2_with fail;refine pmb (fQ s b i _ (W.o.1.drewN _)) fun w1 aj=>?_;have W1':Hid (aG b s (gJ s i) w w1):=(W.o.drewN _).trans aj;clear aj;have W1:Hid (aG b s k w w1):=by have:=W1'.o;rw[HK.o]at this;exact this
   clear W1';have c01:=W1.o.1.c0;have c11:=W1.o.1.c1;have cf1:=W1.o.1.f1;have VZ:=W1.o.1.lt;have cs1:=W1.o.1.len;have V3:=W1.o.1.le;go_wp2_with fail;refine dK (ak s b (k) _ (k) _ (W1.o.1) ⟨oo,oo,oo⟩) fun nq=>?_;go_wp2_with fail;refine pmb (jX s b k _ (W1.o.1.drewN _)) fun w3 aj=>?_;have Tq:Hid (aG b s (iQ s k) w w3):=(W1.o.drewN _).trans aj;clear aj;have W3:Hid (aG b s (dL s i) w w3):=by have:=Tq.o;rw[<-HV.o]at this;exact this
   clear Tq;have c03:=W3.o.1.c0;have c13:=W3.o.1.c1;have cf3:=W3.o.1.f1;have cl3:=W3.o.1.lt;have cs3:=W3.o.1.len;have ce3:=W3.o.1.le;go_wp2_with fail;go_quiet (fail)
   go_wp2_with fail;go_ret;exact⟨rfl,W3.o.drewN _⟩
  .cases edg:aP (pk s (k+1));focus
    have HV:Hid (dL s i=iQ s k):=by show dL s i=_;simp only[dL,lM,hk.o,HK.o];rw[if_neg (fun h=>by simp[h.2]at edg)]
    go_in;go_wp2_with fail;refine dK (ak s b (i) _ (i) _ (W.o.1) ⟨oo,oo,oo⟩) fun nq=>?_;go_wp2_with fail;refine aN (iF _ _) ?_;go_wp2_with fail;refine pmb (fQ s b i _ (W.o.1.drewN _)) fun w1 aj=>?_;have W1':Hid (aG b s (gJ s i) w w1):=(W.o.drewN _).trans aj;clear aj;have W1:Hid (aG b s k w w1):=by have:=W1'.o;rw[HK.o]at this;exact this
    clear W1';have c01:=W1.o.1.c0;have c11:=W1.o.1.c1;have cf1:=W1.o.1.f1;have VZ:=W1.o.1.lt;have cs1:=W1.o.1.len;have V3:=W1.o.1.le;go_wp2_with fail;refine dK (ak s b (k) _ (k) _ (W1.o.1) ⟨oo,oo,oo⟩) fun nq=>?_;go_wp2_with fail;refine dK (ak s b (k) _ (k+1) _ (W1.o.1.drewN _) ⟨oo,oo,oo⟩) fun nq=>?_;go_wp2_with fail;refine aN (fG _ _) ?_;go_wp2_with fail;refine pmb (jX s b k _ (W1.o.1.drewN _)) fun w3 aj=>?_;have Tq:Hid (aG b s (iQ s k) w w3):=(W1.o.drewN _).trans aj
   rotate_left;focus
    have hlt:k+1<s.size:=dX (by have:=kR edg;omega);have HV:Hid (dL s i=iQ s (gJ s (k+1))):=by show dL s i=_;simp only[dL,lM,hk.o,HK.o];rw[if_pos ⟨by simpa using e46,edg⟩]
    go_in;go_wp2_with fail;refine dK (ak s b (i) _ (i) _ (W.o.1) ⟨oo,oo,oo⟩) fun nq=>?_;go_wp2_with fail;refine aN (iF _ _) ?_;go_wp2_with fail;refine pmb (fQ s b i _ (W.o.1.drewN _)) fun w1 aj=>?_;have W1':Hid (aG b s (gJ s i) w w1):=(W.o.drewN _).trans aj;clear aj;have W1:Hid (aG b s k w w1):=by have:=W1'.o;rw[HK.o]at this;exact this
    clear W1';have c01:=W1.o.1.c0;have c11:=W1.o.1.c1;have cf1:=W1.o.1.f1;have VZ:=W1.o.1.lt;have cs1:=W1.o.1.len;have V3:=W1.o.1.le;go_wp2_with fail;refine dK (ak s b (k) _ (k) _ (W1.o.1) ⟨oo,oo,oo⟩) fun nq=>?_;go_wp2_with fail;refine dK (ak s b (k) _ (k+1) _ (W1.o.1.drewN _) ⟨oo,oo,oo⟩) fun nq=>?_;go_wp2_with fail;refine aN (fG _ _) ?_;go_wp2_with fail;refine pmb (fQ s b (k+1) _ ((W1.o.1.drewN _).jw _ (k+1) oo oo)) fun w2 aj=>?_;have W2:Hid (aG b s (gJ s (k+1)) w w2):=((W1.o.drewN _).jw _ (k+1) oo oo).trans aj;clear aj;go_wp2_with fail;refine pmb (jX s b (gJ s (k+1)) _ W2.o.1) fun w3 aj=>?_;have Tq:Hid (aG b s (iQ s (gJ s (k+1))) w w3):=W2.o.trans aj
   rotate_left;all_goals
    clear aj;have W3:Hid (aG b s (dL s i) w w3):=by have:=Tq.o;rw[<-HV.o]at this;exact this
    clear Tq;have c03:=W3.o.1.c0;have c13:=W3.o.1.c1;have cf3:=W3.o.1.f1;have cl3:=W3.o.1.lt;have cs3:=W3.o.1.len;have ce3:=W3.o.1.le;go_wp2_with fail;go_quiet (fail)
    go_wp2_with fail;go_ret;exact⟨rfl,W3.o.drewN _⟩
 .have hk:Hid (fO s i=i+1):=by show fO s i=i+1;simp[fO,hsg]
  have hlt0:i<s.size:=dX (QM hsg);have hd0:=uI (s:=s) (i:=i+1) oo;generalize hkk:gJ s (i+1)=k at hd0;have HK:Hid (gJ s (i+1)=k):=hkk;clear hkk;cases e46:(pk s k==46)
  .have HV:Hid (dL s i=iQ s k):=by show dL s i=_;simp only[dL,lM,hk.o,HK.o];rw[if_neg (fun h=>by simp[h.1]at e46)]
   go_in;go_wp2_with fail;refine dK (ak s b (i) _ (i) _ (W.o.1) ⟨oo,oo,oo⟩) fun nq=>?_;go_wp2_with fail;refine aN (iF _ _) ?_;go_wp2_with fail;refine pmb (fQ s b (i+1) _ ((W.o.1.drewN _).jw _ (i+1) oo oo)) fun w1 aj=>?_;have W1':Hid (aG b s (gJ s (i+1)) w w1):=((W.o.drewN _).jw _ (i+1) oo oo).trans aj;clear aj;have W1:Hid (aG b s k w w1):=by have:=W1'.o;rw[HK.o]at this;exact this
   clear W1';have c01:=W1.o.1.c0;have c11:=W1.o.1.c1;have cf1:=W1.o.1.f1;have VZ:=W1.o.1.lt;have cs1:=W1.o.1.len;have V3:=W1.o.1.le;go_wp2_with fail;refine dK (ak s b (k) _ (k) _ (W1.o.1) ⟨oo,oo,oo⟩) fun nq=>?_;go_wp2_with fail;refine pmb (jX s b k _ (W1.o.1.drewN _)) fun w3 aj=>?_;have Tq:Hid (aG b s (iQ s k) w w3):=(W1.o.drewN _).trans aj;clear aj;have W3:Hid (aG b s (dL s i) w w3):=by have:=Tq.o;rw[<-HV.o]at this;exact this
   clear Tq;have c03:=W3.o.1.c0;have c13:=W3.o.1.c1;have cf3:=W3.o.1.f1;have cl3:=W3.o.1.lt;have cs3:=W3.o.1.len;have ce3:=W3.o.1.le;go_wp2_with fail;go_quiet (fail)
   go_wp2_with fail;go_ret;exact⟨rfl,W3.o.drewN _⟩
  .cases edg:aP (pk s (k+1));focus
    have HV:Hid (dL s i=iQ s k):=by show dL s i=_;simp only[dL,lM,hk.o,HK.o];rw[if_neg (fun h=>by simp[h.2]at edg)]
    go_in;go_wp2_with fail;refine dK (ak s b (i) _ (i) _ (W.o.1) ⟨oo,oo,oo⟩) fun nq=>?_;go_wp2_with fail;refine aN (iF _ _) ?_;go_wp2_with fail;refine pmb (fQ s b (i+1) _ ((W.o.1.drewN _).jw _ (i+1) oo oo)) fun w1 aj=>?_;have W1':Hid (aG b s (gJ s (i+1)) w w1):=((W.o.drewN _).jw _ (i+1) oo oo).trans aj;clear aj;have W1:Hid (aG b s k w w1):=by have:=W1'.o;rw[HK.o]at this;exact this
    clear W1';have c01:=W1.o.1.c0;have c11:=W1.o.1.c1;have cf1:=W1.o.1.f1;have VZ:=W1.o.1.lt;have cs1:=W1.o.1.len;have V3:=W1.o.1.le;go_wp2_with fail;refine dK (ak s b (k) _ (k) _ (W1.o.1) ⟨oo,oo,oo⟩) fun nq=>?_;go_wp2_with fail;refine dK (ak s b (k) _ (k+1) _ (W1.o.1.drewN _) ⟨oo,oo,oo⟩) fun nq=>?_;go_wp2_with fail;refine aN (fG _ _) ?_;go_wp2_with fail;refine pmb (jX s b k _ (W1.o.1.drewN _)) fun w3 aj=>?_;have Tq:Hid (aG b s (iQ s k) w w3):=(W1.o.drewN _).trans aj
   rotate_left;focus
    have hlt:k+1<s.size:=dX (by have:=kR edg;omega);have HV:Hid (dL s i=iQ s (gJ s (k+1))):=by show dL s i=_;simp only[dL,lM,hk.o,HK.o];rw[if_pos ⟨by simpa using e46,edg⟩]
    go_in;go_wp2_with fail;refine dK (ak s b (i) _ (i) _ (W.o.1) ⟨oo,oo,oo⟩) fun nq=>?_;go_wp2_with fail;refine aN (iF _ _) ?_;go_wp2_with fail;refine pmb (fQ s b (i+1) _ ((W.o.1.drewN _).jw _ (i+1) oo oo)) fun w1 aj=>?_;have W1':Hid (aG b s (gJ s (i+1)) w w1):=((W.o.drewN _).jw _ (i+1) oo oo).trans aj;clear aj;have W1:Hid (aG b s k w w1):=by have:=W1'.o;rw[HK.o]at this;exact this
    clear W1';have c01:=W1.o.1.c0;have c11:=W1.o.1.c1;have cf1:=W1.o.1.f1;have VZ:=W1.o.1.lt;have cs1:=W1.o.1.len;have V3:=W1.o.1.le;go_wp2_with fail;refine dK (ak s b (k) _ (k) _ (W1.o.1) ⟨oo,oo,oo⟩) fun nq=>?_;go_wp2_with fail;refine dK (ak s b (k) _ (k+1) _ (W1.o.1.drewN _) ⟨oo,oo,oo⟩) fun nq=>?_;go_wp2_with fail;refine aN (fG _ _) ?_;go_wp2_with fail;refine pmb (fQ s b (k+1) _ ((W1.o.1.drewN _).jw _ (k+1) oo oo)) fun w2 aj=>?_;have W2:Hid (aG b s (gJ s (k+1)) w w2):=((W1.o.drewN _).jw _ (k+1) oo oo).trans aj;clear aj;go_wp2_with fail;refine pmb (jX s b (gJ s (k+1)) _ W2.o.1) fun w3 aj=>?_;have Tq:Hid (aG b s (iQ s (gJ s (k+1))) w w3):=W2.o.trans aj
   rotate_left;all_goals
    clear aj;have W3:Hid (aG b s (dL s i) w w3):=by have:=Tq.o;rw[<-HV.o]at this;exact this
    clear Tq;have c03:=W3.o.1.c0;have c13:=W3.o.1.c1;have cf3:=W3.o.1.f1;have cl3:=W3.o.1.lt;have cs3:=W3.o.1.len;have ce3:=W3.o.1.le;go_wp2_with fail;go_quiet (fail)
    go_wp2_with fail;go_ret;exact⟨rfl,W3.o.drewN _⟩
structure fF(w:World)(R:Nat):Prop where
 blk:w.heap[R]?=some (.cells #[.int .i64 0,.string ⟨#[]⟩,.string ⟨#[]⟩] 68 (0,0))
theorem fF.new(w:World):fF (w.alloc (.cells #[.int .i64 0,.string ⟨#[]⟩,.string ⟨#[]⟩] 68 (0,0))) w.heap.size:=⟨heap_alloc_new w _⟩
theorem fF.nh(w:World):Hid (fF (w.alloc (.cells #[.int .i64 0,.string ⟨#[]⟩,.string ⟨#[]⟩] 68 (0,0))) w.heap.size):=fF.new w
theorem fF.lt{w:World}{R:Nat}(h:fF w R):R<w.heap.size:=(Array.getElem?_eq_some_iff.1 h.blk).1
theorem fF.c0{w:World}{R:Nat}(h:fF w R):w.cell? ⟨R,0,none⟩=some (.int .i64 0):=by unfold World.cell?;rw[h.blk];rfl
theorem fF.c1{w:World}{R:Nat}(h:fF w R):w.cell? ⟨R,1,none⟩=some (.string ⟨#[]⟩):=by unfold World.cell?;rw[h.blk];rfl
theorem fF.c2{w:World}{R:Nat}(h:fF w R):w.cell? ⟨R,2,none⟩=some (.string ⟨#[]⟩):=by unfold World.cell?;rw[h.blk];rfl
theorem fF.f{w:World}{R:Nat}(h:fF w R)(o:Nat):w.frozen? ⟨R,o,none⟩=false:=by unfold World.frozen?;rw[h.blk];simp
theorem fF.turn{w w':World}{R b:Nat}(h:fF w R)(ht:Turn b w w')(hb:R≠b):fF w' R:=⟨by rw[ht.block R h.lt hb];exact h.blk⟩
theorem fF.drewN{w:World}{R:Nat}(h:fF w R)(n:Nat):fF (w.drewN n) R:=⟨h.blk⟩
theorem fF.set{w:World}{R b o:Nat}(h:fF w R)(hb:R≠b)(v:Value):fF (w.setCell ⟨b,o,none⟩ v) R:=⟨by rw[Below.heap_setCell _ _ _ _ (by exact hb)];exact h.blk⟩
theorem aG.dG{b k:Nat}{s:ByteArray}{w w1:World}{R:Nat}(h:aG b s k w w1)(hb:b<w.heap.size)(hR:w.heap.size<=R)(o:Nat)(v:Value):aG b s k w (w1.setCell ⟨R,o,none⟩ v):=by
 have hp:=h.1.pos;have hsz:=h.2.size;refine⟨⟨?_,?_,h.1.pos,h.1.len,h.1.le⟩,⟨h.2.os,h.2.tape,h.2.output,by simp[World.setCell];exact h.2.size,fun j hj hjb=>?_⟩⟩
 .rw[Below.heap_setCell _ _ _ _ (by show b≠R;omega)];exact h.1.blk
 .obtain⟨m,hm⟩:=h.1.glob;exact⟨m,by rw[<-hm];exact World.cell?_of_block (w:=w1) (Below.heap_setCell _ _ _ _ (by show(0:Nat)≠R;omega))⟩
 .rw[Below.heap_setCell _ _ _ _ (by show j≠R;omega)];exact h.2.block j hj hjb
def aF(t:Tok):Value:=.agg #[.int .i64 t.kind,.string t.word,.string t.unit]
theorem IQ(s:ByteArray)(b i:Nat)(w:World)(h:Sc w b s i):
  Calls prog 168 #[.pointer (some ⟨b,0,none⟩)] w fun e w'=>e=.returned (aF (Sp.numeric s i).1)/\aG b s (Sp.numeric s i).2 w w':=by
 have W:=aG.nh h;have hbw:b<w.heap.size:=h.lt;clear h;cases h37:(pk s (dL s i)==37)
 .have n37:¬pk s (dL s i)=37:=by simpa using h37
  cases hbg:iq s (dL s i)
  .have HV:Hid (Sp.numeric s i=(Tok.w 5 (s.extract i (dL s i)),dL s i)):=by
    show _=_;unfold Sp.numeric;dsimp only;rw[if_neg n37,if_neg (by simp[hbg])]
   clear n37;go_in;go_wp2_with fail;refine pmb (EC s b i _ W.o.1) fun w1 aj=>?_;have W1:Hid (aG b s (dL s i) w w1):=W.o.trans aj;have R1:Hid (fF w1 w.heap.size):=(fF.new w).turn aj.2 oo;clear aj;have c01:=W1.o.1.c0;have c11:=W1.o.1.c1;have cf1:=W1.o.1.f1;have VZ:=W1.o.1.lt;have cs1:=W1.o.1.len;have V3:=W1.o.1.le;go_wp2_with fail;refine dK (ak s b (dL s i) _ (dL s i) _ (W1.o.1) ⟨oo,oo,oo⟩) fun nq=>?_;go_wp2_with fail;refine dK (gV s b (dL s i) _ (dL s i) _ (W1.o.1.drewN _) ⟨oo,oo,oo⟩) fun nq=>?_;have r0:=R1.o.c0;have r1:=R1.o.c1;have r2:=R1.o.c2;have rf:=R1.o.f;have rl:=R1.o.lt;go_wp2_with fail;rw[HV.o]
   exact bodyPost_ret (v:=aF (Tok.w 5 (s.extract i (dL s i)))) (by simp[results,Tryz.results168,go_sem,aF,Tok.w,r0,r1,r2];rfl) rfl ⟨rfl,((((W1.o.drewN _)).dG hbw nl _ _).dG hbw nl _ _).dG hbw nl _ _⟩
  .have HV:Hid (Sp.numeric s i=(⟨7,s.extract i (dL s i),(Sp.name s (dL s i)).1⟩,(Sp.name s (dL s i)).2)):=by
    show _=_;unfold Sp.numeric;dsimp only;rw[if_neg n37,if_pos hbg]
   clear n37;go_in;go_wp2_with fail;refine pmb (EC s b i _ W.o.1) fun w1 aj=>?_;have W1:Hid (aG b s (dL s i) w w1):=W.o.trans aj;have R1:Hid (fF w1 w.heap.size):=(fF.new w).turn aj.2 oo;clear aj;go_wp2_with fail;refine dK (ak s b (dL s i) _ (dL s i) _ (W1.o.1) ⟨oo,oo,oo⟩) fun nq=>?_;go_wp2_with fail;refine dK (gV s b (dL s i) _ (dL s i) _ (W1.o.1.drewN _) ⟨oo,oo,oo⟩) fun nq=>?_;go_wp2_with fail;refine pmb (yc s b (dL s i) _ (W1.o.1.drewN _)) fun w2 aj=>?_;have W2:Hid (aG b s (Sp.name s (dL s i)).2 w w2):=(W1.o.drewN _).trans aj;have R2:Hid (fF w2 w.heap.size):=(R1.o.drewN _).turn aj.2 oo;clear aj;have r0:=R2.o.c0;have r1:=R2.o.c1;have r2:=R2.o.c2;have rf:=R2.o.f;have rl:=R2.o.lt;go_wp2_with fail;rw[HV.o]
   exact bodyPost_ret (v:=aF ⟨7,s.extract i (dL s i),(Sp.name s (dL s i)).1⟩) (by simp[results,Tryz.results168,go_sem,aF,r0,r1,r2]) rfl ⟨rfl,((W2.o.dG hbw nl _ _).dG hbw nl _ _).dG hbw nl _ _⟩
 .have hlt:dL s i<s.size:=dX (by have:pk s (dL s i)=37:=(by simpa using h37);omega);have HV:Hid (Sp.numeric s i=(Tok.w 6 (s.extract i (dL s i)),dL s i+1)):=by
   show _=_;unfold Sp.numeric;dsimp only;rw[if_pos (by simpa using h37)]
  go_in;go_wp2_with fail;refine pmb (EC s b i _ W.o.1) fun w1 aj=>?_;have W1:Hid (aG b s (dL s i) w w1):=W.o.trans aj;have R1:Hid (fF w1 w.heap.size):=(fF.new w).turn aj.2 oo;clear aj;have c01:=W1.o.1.c0;have c11:=W1.o.1.c1;have cf1:=W1.o.1.f1;have VZ:=W1.o.1.lt;have cs1:=W1.o.1.len;have V3:=W1.o.1.le;go_wp2_with fail;refine dK (ak s b (dL s i) _ (dL s i) _ (W1.o.1) ⟨oo,oo,oo⟩) fun nq=>?_;have r0:=R1.o.c0;have r1:=R1.o.c1;have r2:=R1.o.c2;have rf:=R1.o.f;have rl:=R1.o.lt;go_wp2_with fail;rw[HV.o];exact bodyPost_ret (v:=aF (Tok.w 6 (s.extract i (dL s i)))) (by simp[results,Tryz.results168,go_sem,aF,Tok.w,r0,r1,r2];rfl) rfl ⟨rfl,(((((W1.o.drewN _).jw _ (dL s i+1) oo oo)).dG hbw nl _ _).dG hbw nl _ _).dG hbw nl _ _⟩
end Go.Proofs.YtlliliddljkbfaaGreatDoor
