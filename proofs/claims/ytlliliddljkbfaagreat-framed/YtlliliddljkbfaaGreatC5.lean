import Derived.Test.YtlliliddljkbfaaGreatC3
import Derived.Test.YtlliliddljkbfaaGreatC4
import Derived.Conc.LoneCalls
set_option maxHeartbeats 64000000
set_option maxRecDepth 100000
namespace Go.Proofs.YtlliliddljkbfaaGreat
open Go.Proofs.Tryz (prog)
open Go.RowKit Sp
theorem gX.alloc{w:WD}{R:Nat}(h:gX w R)(o:Obj):gX (w.alloc o) R:=⟨by rw[Below.heap_alloc _ _ _ h.lt];exact h.blk⟩
theorem gX.grown{w w':WD}{R:Nat}{row:Option Nat}(h:gX w R)(hg:w.grownBy w' row)(hr:∀r,row=some r->R<r):gX w' R:=⟨by rw[hg.block R h.lt (fun e=>by have:=hr R e.symm;omega)];exact h.blk⟩
theorem gX.below{w w':WD}{R:Nat}(h:gX w R)(hb:Below w.heap.size w w'):gX w' R:=⟨by rw[hb.block R h.lt];exact h.blk⟩
theorem FD(ps:List BY):aG (ps++[ByteArray.empty])=aG ps:=by rw[dw];simp
theorem IQ(s:BY)(b i:Nat)(w:WD)(h:Sc w b s i)(hi:i<s.size)(he:s.size<=i+1):
  Calls prog 236 #[.pointer (some ⟨b,0,none⟩)] w fun e w'=>e=.returned (.string ByteArray.empty)/\aB b s (i+1) w w':=by
 have W:Hid (aB b s i w w):=aB.refl h;clear h;have c00:=W.o.1.c0;have c10:=W.o.1.c1;have KY:=W.o.1.f1;have KZ:=W.o.1.lt;have cs0:=W.o.1.len;have La:=W.o.1.le;have e1:(pk s (i+1) == -1)=true:=by rw[oK he];rfl
 go_in;go_wp2_with fail;refine cZ (ak s b (i) _ (i+1) _ (W.o.1) ⟨oo,oo,oo⟩) fun nq=>?_;go_wp2_with fail;go_ret;exact⟨rfl,(W.o.drewN _).iP _ (i+1) oo oo⟩
theorem F5(s:BY)(b i:Nat)(w:WD)(h:Sc w b s i)(hi:i+1<s.size)(he:pk s (i+1)=10):
  Calls prog 236 #[.pointer (some ⟨b,0,none⟩)] w fun e w'=>e=.returned (.string ByteArray.empty)/\aB b s (i+2) w w':=by
 have W:Hid (aB b s i w w):=aB.refl h;clear h;have c00:=W.o.1.c0;have c10:=W.o.1.c1;have KY:=W.o.1.f1;have KZ:=W.o.1.lt;have cs0:=W.o.1.len;have La:=W.o.1.le;have e1:(pk s (i+1) == -1)=false:=by rw[he];rfl
 have e2:(pk s (i+1)==10)=true:=by rw[he];rfl
 clear he;go_in;go_wp2_with fail;refine cZ (ak s b (i) _ (i+1) _ (W.o.1) ⟨oo,oo,oo⟩) fun nq=>?_;go_wp2_with fail;go_ret;exact⟨rfl,(W.o.drewN _).iP _ (i+2) oo oo⟩
theorem IU(s:BY)(b i:Nat)(w:WD)(h:Sc w b s i)(hi:i+1<s.size)(he:¬pk s (i+1)=10):
  Calls prog 236 #[.pointer (some ⟨b,0,none⟩)] w fun e w'=>e=.returned (.string (esc s i).1)/\aB b s (esc s i).2 w w':=by
 have W:Hid (aB b s i w w):=aB.refl h;clear h;have e1:(pk s (i+1) == -1)=false:=by have:=tK hi;simp;omega
 have e2:(pk s (i+1)==10)=false:=by simpa using he
 clear he;go_in;go_wp2_with fail;refine cZ (ak s b (i) _ (i+1) _ (W.o.1) ⟨oo,oo,oo⟩) fun nq=>?_;go_wp2_with fail;refine pmb (BU s b i _ (W.o.1.drewN _) oo) fun w1 aj=>?_;have W1:Hid (aB b s (esc s i).2 w w1):=(W.o.drewN _).trans aj;clear aj;go_wp2_with fail;go_ret;exact⟨rfl,W1.o⟩
theorem ajf(s:BY)(b i:Nat)(w:WD)(h:Sc w b s i)(hi:i<s.size):
  Calls prog 178 #[.pointer (some ⟨b,0,none⟩)] w fun e w'=>e=.returned (bF (txt s (pk s i) (i+1)).1)/\aB b s (txt s (pk s i) (i+1)).2 w w':=by
 have W:=aB.nh h;have hbw:b<w.heap.size:=h.lt;have hs:s.size<=600:=h.len;clear h;obtain⟨iS,wK⟩:=info_str;have HI:=hid wK;clear wK;obtain⟨q,HQ⟩:=Nm (pk s i);rw[HQ.o];have c00:=W.o.1.c0;have c10:=W.o.1.c1;have KY:=W.o.1.f1;have KZ:=W.o.1.lt;have cs0:=W.o.1.len;have La:=W.o.1.le;go_in;go_wp2_with fail;refine ji (fun Q' hF=>?_);go_wp2_with fail;refine(ak s b i _ i _ W.o.1 ⟨oo,oo,oo⟩).mono ?_;rw[HQ.o];rintro e wq ⟨rfl,nq,rfl⟩;go_wp2_with fail
 go_loopg[3] s.size (fun g v3 wr=>∃(v:Av) (k:Nat) (ps:List BY),v=v3/\s.size<=k+g/\ps.length<=k/\total ps<=k/\Aside (lK s q g k (aG ps)=txt s q (i+1)/\wr.ownsRow (w.heap.size+1) 9 1 v ps.length (ps.map Value.string)/\aB b s k w wr/\gX wr w.heap.size));case atStart=>exact⟨_,i+1,[],rfl,oo,by simp,by simp[total],rfl,World.ownsRow_nil _ _ _ _,(W.o.drewN _).iP _ (i+1) oo oo,((gX.new w).drewN _).set oo _⟩
 case round=>
  obtain⟨v3,k,ps,rfl,hk,hpl,hpt,hA⟩:=hrel;have H1:=hid hA.o.1;have HO:=hid hA.o.2.1;have H2:=hid hA.o.2.2.1;have HR:=hid hA.o.2.2.2;clear hA;have c02:=H2.o.1.c0;have c12:=H2.o.1.c1;have cf2:=H2.o.1.f1;have cl2:=H2.o.1.lt;have cs2:=H2.o.1.len;have ce2:=H2.o.1.le;by_cases hend:s.size<=k
  .have e0:(pk s k == -1)=true:=by rw[oK hend];rfl
   have HV:Hid (txt s q (i+1)=(Tok.w 2 (aG ps),k)):=by
    show _=_;rw[<-H1.o];cases gk with
    |zero=>rfl
    |succ f=>unfold lK;rw[if_pos hend]
   go_wp2_with fail;refine cZ (ak s b (k) _ (k) _ (H2.o.1) ⟨oo,oo,oo⟩) fun nq=>?_;go_wp2_with fail;go_step3
   refine hF.go _ _ _ _ rfl ?_;clear hF;go_wp2_with fail;refine pmb (dQ ps (w.heap.size+1) v3 _ (bP HO.o _) oo oo) fun w5 hb5=>?_;have W5:Hid (aB b s (k) w w5):=(H2.o.drewN _).below hb5;have R5:Hid (gX w5 w.heap.size):=(HR.o.drewN _).below hb5;clear hb5;have r0:=R5.o.c0;have r1:=R5.o.c1;have r2:=R5.o.c2;have rf:=R5.o.f;have rl:=R5.o.lt;go_wp2_with fail;try rw[Exit.noGoto_ret]
   refine bodyPost_ret (v:=bF (Tok.w 2 (aG ps))) (by simp[results,Tryz.results178,go_sem,bF,Tok.w,r0,r1,r2];rfl) rfl ⟨?_,?_⟩
   .rw[HV.o]
   .rw[HV.o];exact((W5.o.cu hbw nl _ _).cu hbw nl _ _).cu hbw nl _ _
  .have hlt:k<s.size:=oo;have e0:(pk s k == -1)=false:=by have:=tK hlt;simp;omega
   obtain⟨f,rfl⟩:∃f,gk=f+1:=⟨gk-1,oo⟩;have kT:=H1.o;unfold lK at kT;rw[if_neg hend]at kT;by_cases hq:pk s k=q
   .have e1:(pk s k==q)=true:=by simpa using hq
    have HV:Hid (txt s q (i+1)=(Tok.w 2 (aG ps),k+1)):=by show _=_;rw[<-kT,if_pos hq]
    clear hq kT;go_wp2_with fail;refine cZ (ak s b (k) _ (k) _ (H2.o.1) ⟨oo,oo,oo⟩) fun nq=>?_;go_wp2_with fail;go_step3
    refine hF.go _ _ _ _ rfl ?_;clear hF;go_wp2_with fail;refine pmb (dQ ps (w.heap.size+1) v3 _ (eF (bP HO.o _) ((Turn.refl b _).setCell 1 _) oo) oo oo) fun w5 hb5=>?_;have W5:Hid (aB b s (k+1) w w5):=((H2.o.drewN _).iP _ (k+1) oo oo).below hb5;have R5:Hid (gX w5 w.heap.size):=((HR.o.drewN _).set oo _).below hb5;clear hb5;have r0:=R5.o.c0;have r1:=R5.o.c1;have r2:=R5.o.c2;have rf:=R5.o.f;have rl:=R5.o.lt;go_wp2_with fail;try rw[Exit.noGoto_ret]
    refine bodyPost_ret (v:=bF (Tok.w 2 (aG ps))) (by simp[results,Tryz.results178,go_sem,bF,Tok.w,r0,r1,r2];rfl) rfl ⟨?_,?_⟩
    .rw[HV.o]
    .rw[HV.o];exact((W5.o.cu hbw nl _ _).cu hbw nl _ _).cu hbw nl _ _
   .have e1:(pk s k==q)=false:=by simpa using hq
    rw[if_neg hq]at kT;by_cases h10:pk s k=10
    .have e2:(pk s k==10)=true:=by rw[h10];rfl
     have HV:Hid (txt s q (i+1)=(Tok.k 3,k)):=by show _=_;rw[<-kT,if_pos h10]
     clear hq h10 kT;have r0:=HR.o.c0;have r1:=HR.o.c1;have r2:=HR.o.c2;have rf:=HR.o.f;have rl:=HR.o.lt;go_wp2_with fail;refine cZ (ak s b (k) _ (k) _ (H2.o.1) ⟨oo,oo,oo⟩) fun nq=>?_;go_wp2_with fail;go_step3
     refine hF.go _ _ _ _ rfl ?_;clear hF;go_wp2_with fail;try rw[Exit.noGoto_ret]
     refine bodyPost_ret (v:=bF (Tok.k 3)) (by simp[results,Tryz.results178,go_sem,bF,Tok.k,r0,r1,r2];rfl) rfl ⟨?_,?_⟩
     .rw[HV.o]
     .rw[HV.o];exact(((H2.o.drewN _).cu hbw nl _ _).cu hbw nl _ _).cu hbw nl _ _
    .have e2:(pk s k==10)=false:=by simpa using h10
     rw[if_neg h10]at kT;by_cases h92:pk s k=92
     .have e3:(pk s k==92)=true:=by rw[h92];rfl
      rw[if_pos h92]at kT;by_cases hl1:s.size<=k+1
      .rw[if_pos hl1]at kT;have HV:Hid (lK s q f (k+1) (aG (ps++[ByteArray.empty]))=txt s q (i+1)):=by show _=_;rw[FD];exact kT
       clear hq h10 h92 kT;go_wp2_with fail;refine cZ (ak s b (k) _ (k) _ (H2.o.1) ⟨oo,oo,oo⟩) fun nq=>?_;go_wp2_with fail;refine pmb (IQ s b k _ (H2.o.1.drewN _) hlt hl1) fun w1 aj=>?_;have W1:Hid (aB b s (k+1) w w1):=(H2.o.drewN _).trans aj;have uS:Hid (w1.ownsRow (w.heap.size+1) 9 1 v3 ps.length (ps.map Value.string)):=eF (bP HO.o _) aj.2 oo;have R1:Hid (gX w1 w.heap.size):=(HR.o.drewN _).turn aj.2 oo;clear aj;have hw1:=W1.o.2.size;have hw2:=R1.o.lt
       go_wp2_with(at_builtin;refine wpList_append_own _ rfl _ _ 26 rfl (w.heap.size+1) 9 iS (.string ⟨#[]⟩) 1 16 Tryz.underlying26 HI.o.1 HI.o.2.1 HI.o.2.2.1 HI.o.2.2.2 rfl oo v3 ps.length (ps.map Value.string) rfl (uS.o.alloc _) ⟨w1.heap.size,0,none⟩ 1 1 [.string (ByteArray.empty)] rfl rfl (cell_one_new _ _ _) (aT _) ?_ ?_ ?_ ?_)
       .unfold maxLen;omega
       .omega
       .simp;omega
       intro v4 w2 hown2 jk _;have W2:Hid (aB b s (k+1) w w2):=(W1.o.alloc _).grown jk hbw (fun r hr=>by have:=(uS.o.lt r hr).1;omega);have FW:=hid hown2;have R2:Hid (gX w2 w.heap.size):=(R1.o.alloc _).grown jk (fun r hr=>by have:=(uS.o.lt r hr).1;omega);clear hown2 jk;go_wp2_with fail;go_roundg f;case measure=>omega
       case rel=>
        refine⟨v4,k+1,ps++[ByteArray.empty],rfl,oo,by simp;omega,?_,HV.o,?_,W2.o,R2.o⟩
        .simp[dh,total];omega
        .simpa using FW.o
      .rw[if_neg hl1]at kT;by_cases hln:pk s (k+1)=10
       .rw[if_pos hln]at kT;have HV:Hid (lK s q f (k+2) (aG (ps++[ByteArray.empty]))=txt s q (i+1)):=by show _=_;rw[FD];exact kT
        have HL:=hid hln;clear hq h10 h92 kT hln;go_wp2_with fail;refine cZ (ak s b (k) _ (k) _ (H2.o.1) ⟨oo,oo,oo⟩) fun nq=>?_;go_wp2_with fail;refine pmb (F5 s b k _ (H2.o.1.drewN _) oo HL.o) fun w1 aj=>?_;have W1:Hid (aB b s (k+2) w w1):=(H2.o.drewN _).trans aj;have uS:Hid (w1.ownsRow (w.heap.size+1) 9 1 v3 ps.length (ps.map Value.string)):=eF (bP HO.o _) aj.2 oo;have R1:Hid (gX w1 w.heap.size):=(HR.o.drewN _).turn aj.2 oo;clear aj;have hw1:=W1.o.2.size;have hw2:=R1.o.lt
        go_wp2_with(at_builtin;refine wpList_append_own _ rfl _ _ 26 rfl (w.heap.size+1) 9 iS (.string ⟨#[]⟩) 1 16 Tryz.underlying26 HI.o.1 HI.o.2.1 HI.o.2.2.1 HI.o.2.2.2 rfl oo v3 ps.length (ps.map Value.string) rfl (uS.o.alloc _) ⟨w1.heap.size,0,none⟩ 1 1 [.string (ByteArray.empty)] rfl rfl (cell_one_new _ _ _) (aT _) ?_ ?_ ?_ ?_)
        .unfold maxLen;omega
        .omega
        .simp;omega
        intro v4 w2 hown2 jk _;have W2:Hid (aB b s (k+2) w w2):=(W1.o.alloc _).grown jk hbw (fun r hr=>by have:=(uS.o.lt r hr).1;omega);have FW:=hid hown2;have R2:Hid (gX w2 w.heap.size):=(R1.o.alloc _).grown jk (fun r hr=>by have:=(uS.o.lt r hr).1;omega);clear hown2 jk;go_wp2_with fail;go_roundg f;case measure=>omega
        case rel=>
         refine⟨v4,k+2,ps++[ByteArray.empty],rfl,oo,by simp;omega,?_,HV.o,?_,W2.o,R2.o⟩
         .simp[dh,total];omega
         .simpa using FW.o
       .rw[if_neg hln]at kT;have hge:=uX hlt;have hgt:=oL s k;have HV:Hid (lK s q f (esc s k).2 (aG (ps++[(esc s k).1]))=txt s q (i+1)):=by show _=_;rw[dw];exact kT
        have hsz:Hid ((esc s k).1.size=1):=kN;have HL:=hid hln;clear hq h10 h92 kT hln;go_wp2_with fail;refine cZ (ak s b (k) _ (k) _ (H2.o.1) ⟨oo,oo,oo⟩) fun nq=>?_;go_wp2_with fail;refine pmb (IU s b k _ (H2.o.1.drewN _) oo HL.o) fun w1 aj=>?_;have W1:Hid (aB b s ((esc s k).2) w w1):=(H2.o.drewN _).trans aj;have uS:Hid (w1.ownsRow (w.heap.size+1) 9 1 v3 ps.length (ps.map Value.string)):=eF (bP HO.o _) aj.2 oo;have R1:Hid (gX w1 w.heap.size):=(HR.o.drewN _).turn aj.2 oo;clear aj;have hw1:=W1.o.2.size;have hw2:=R1.o.lt
        go_wp2_with(at_builtin;refine wpList_append_own _ rfl _ _ 26 rfl (w.heap.size+1) 9 iS (.string ⟨#[]⟩) 1 16 Tryz.underlying26 HI.o.1 HI.o.2.1 HI.o.2.2.1 HI.o.2.2.2 rfl oo v3 ps.length (ps.map Value.string) rfl (uS.o.alloc _) ⟨w1.heap.size,0,none⟩ 1 1 [.string ((esc s k).1)] rfl rfl (cell_one_new _ _ _) (aT _) ?_ ?_ ?_ ?_)
        .unfold maxLen;omega
        .omega
        .simp;omega
        intro v4 w2 hown2 jk _;have W2:Hid (aB b s ((esc s k).2) w w2):=(W1.o.alloc _).grown jk hbw (fun r hr=>by have:=(uS.o.lt r hr).1;omega);have FW:=hid hown2;have R2:Hid (gX w2 w.heap.size):=(R1.o.alloc _).grown jk (fun r hr=>by have:=(uS.o.lt r hr).1;omega);clear hown2 jk;go_wp2_with fail;go_roundg f;case measure=>omega
        case rel=>
         refine⟨v4,(esc s k).2,ps++[(esc s k).1],rfl,oo,by simp;omega,?_,HV.o,?_,W2.o,R2.o⟩
         .have:=hsz.o;simp[dh,total,this];omega
         .simpa using FW.o
     .have e3:(pk s k==92)=false:=by simpa using h92
      rw[if_neg h92]at kT;have HV:Hid (lK s q f (k+1) (aG (ps++[one s k]))=txt s q (i+1)):=by show _=_;rw[dw];exact kT
      have hsz:Hid ((one s k).size=1):=iQ hlt;clear hq h10 h92 kT;go_wp2_with fail;refine cZ (ak s b (k) _ (k) _ (H2.o.1) ⟨oo,oo,oo⟩) fun nq=>?_;go_wp2_with fail;refine pmb (Ap s b k _ (H2.o.1.drewN _) hlt) fun w1 aj=>?_;have W1:Hid (aB b s (k+1) w w1):=(H2.o.drewN _).trans aj;have uS:Hid (w1.ownsRow (w.heap.size+1) 9 1 v3 ps.length (ps.map Value.string)):=eF (bP HO.o _) aj.2 oo;have R1:Hid (gX w1 w.heap.size):=(HR.o.drewN _).turn aj.2 oo;clear aj;have hw1:=W1.o.2.size;have hw2:=R1.o.lt
      go_wp2_with(at_builtin;refine wpList_append_own _ rfl _ _ 26 rfl (w.heap.size+1) 9 iS (.string ⟨#[]⟩) 1 16 Tryz.underlying26 HI.o.1 HI.o.2.1 HI.o.2.2.1 HI.o.2.2.2 rfl oo v3 ps.length (ps.map Value.string) rfl (uS.o.alloc _) ⟨w1.heap.size,0,none⟩ 1 1 [.string (one s k)] rfl rfl (cell_one_new _ _ _) (aT _) ?_ ?_ ?_ ?_)
      .unfold maxLen;omega
      .omega
      .simp;omega
      intro v4 w2 hown2 jk _;have W2:Hid (aB b s (k+1) w w2):=(W1.o.alloc _).grown jk hbw (fun r hr=>by have:=(uS.o.lt r hr).1;omega);have FW:=hid hown2;have R2:Hid (gX w2 w.heap.size):=(R1.o.alloc _).grown jk (fun r hr=>by have:=(uS.o.lt r hr).1;omega);clear hown2 jk;go_wp2_with fail;go_roundg f;case measure=>omega
      case rel=>
       refine⟨v4,k+1,ps++[one s k],rfl,oo,by simp;omega,?_,HV.o,?_,W2.o,R2.o⟩
       .have:=hsz.o;simp[dh,total,this];omega
       .simpa using FW.o
theorem zW(s:BY)(b i:Nat)(w:WD)(h:Sc w b s i):
  Calls prog 292 #[.pointer (some ⟨b,0,none⟩)] w fun e w'=>e=.returned (.tuple #[])/\aB b s (bad s i) w w':=by
 have W:Hid (aB b s i w w):=aB.refl h;clear h;go_in;go_wp2_with fail;refine ji (fun Q' hF=>?_);go_wp2_with fail;go_loopg[] s.size (fun g wr=>∃k:Nat,s.size<=k+g/\Aside (Ed s g k=bad s i/\aB b s k w wr));case atStart=>exact⟨i,oo,rfl,W.o⟩
 case round=>
  obtain⟨k,hk,hA⟩:=hrel;have H1:=hid hA.o.1;have H2:=hid hA.o.2;clear hA;have c02:=H2.o.1.c0;have c12:=H2.o.1.c1;have cf2:=H2.o.1.f1;have cl2:=H2.o.1.lt;have cs2:=H2.o.1.len;have ce2:=H2.o.1.le;by_cases hend:s.size<=k
  .have e0:(pk s k == -1)=true:=by rw[oK hend];rfl
   have HV:Hid (bad s i=k):=by
    show _=_;rw[<-H1.o];cases gk with
    |zero=>rfl
    |succ f=>unfold Ed;rw[if_pos hend]
   go_wp2_with fail;refine cZ (ak s b (k) _ (k) _ (H2.o.1) ⟨oo,oo,oo⟩) fun nq=>?_;go_wp2_with fail;go_step3
   refine hF.go _ _ _ _ rfl ?_;clear hF;go_wp2
   simp only[Exit.noGoto];go_end0
   refine⟨rfl,?_⟩;rw[HV.o];exact H2.o.drewN _
  .have hlt:k<s.size:=oo;have e0:(pk s k == -1)=false:=by have:=tK hlt;simp;omega
   obtain⟨f,rfl⟩:∃f,gk=f+1:=⟨gk-1,oo⟩;have kT:=H1.o;unfold Ed at kT;rw[if_neg hend]at kT;by_cases h41:pk s k=41
   .have e1:(pk s k==41)=true:=by rw[h41];rfl
    have HV:Hid (bad s i=k+1):=by show _=_;rw[<-kT,if_pos h41]
    clear h41 kT;go_wp2_with fail;refine cZ (ak s b (k) _ (k) _ (H2.o.1) ⟨oo,oo,oo⟩) fun nq=>?_;go_wp2_with fail;go_step3
    refine hF.go _ _ _ _ rfl ?_;clear hF;go_wp2
    simp only[Exit.noGoto];go_end0
    refine⟨rfl,?_⟩;rw[HV.o];exact(H2.o.drewN _).iP _ (k+1) oo oo
   .have e1:(pk s k==41)=false:=by simpa using h41
    rw[if_neg h41]at kT;clear h41;cases he:kY s k
    .rw[if_neg (by simp[he])]at kT;have HV:=hid kT;clear kT;go_wp2_with fail;refine cZ (ak s b (k) _ (k) _ (H2.o.1) ⟨oo,oo,oo⟩) fun nq=>?_;go_wp2_with fail;refine cZ (fA s b (k) _ (k) _ (H2.o.1.drewN _) ⟨oo,oo,oo⟩) fun nq=>?_;go_wp2_with fail;go_roundg f;case measure=>omega
     case rel=>exact⟨k+1,oo,HV.o,(H2.o.drewN _).iP _ (k+1) oo oo⟩
    .rw[if_pos he]at kT;have HV:=hid kT;clear kT;have hge:=uX hlt;have hgt:=oL s k;go_wp2_with fail;refine cZ (ak s b (k) _ (k) _ (H2.o.1) ⟨oo,oo,oo⟩) fun nq=>?_;go_wp2_with fail;refine cZ (fA s b (k) _ (k) _ (H2.o.1.drewN _) ⟨oo,oo,oo⟩) fun nq=>?_;go_wp2_with fail;refine pmb (BU s b k _ (H2.o.1.drewN _) hlt) fun w1 aj=>?_;have W1:Hid (aB b s (esc s k).2 w w1):=(H2.o.drewN _).trans aj;clear aj;go_wp2_with fail;go_roundg f;case measure=>omega
     case rel=>exact⟨(esc s k).2,oo,HV.o,W1.o⟩
theorem xX(s:BY)(b i:Nat)(w:WD)(h:Sc w b s i):
  Calls prog 244 #[.pointer (some ⟨b,0,none⟩)] w fun e w'=>e=.returned (.bool (dD (pk s (Sp.blk s i))))/\aB b s i w w':=by
 have W:Hid (aB b s i w w):=aB.refl h;have hbw:=h.lt;have hp:=h.pos;have S:Hid (Sc (w.alloc (.cells #[.string s,.int .i64 (i:Int)] 201 (0,0))) w.heap.size s i):=
  ⟨heap_alloc_new w _,by obtain⟨m,hm⟩:=h.glob;exact⟨m,by rw[<-hm];exact World.cell?_of_block (w:=w) (Below.heap_alloc _ _ _ (by show 0<w.heap.size;omega))⟩,oo,h.len,h.le⟩
 have h0:=h.c0;have h1:=h.c1;clear h;go_in;go_wp2_with fail;refine pmb (lg s w.heap.size i _ S.o) fun w1 aj=>?_;have S1:=hid aj.1;have T1:=hid aj.2;clear aj;go_wp2_with fail;refine cZ (ak s w.heap.size (Sp.blk s i) _ (Sp.blk s i) _ S1.o ⟨oo,oo,oo⟩) fun nq=>?_;go_wp2_with fail;refine jA (fH _ _) ?_;go_wp2_with fail;go_ret;have hb:Below w.heap.size w w1:=((Below.refl _ w).alloc nl _).trans (T1.o.below nl Ab);exact⟨rfl,(W.o.below hb).drewN _⟩
theorem ajg(s:BY)(b i:Nat)(w:WD)(h:Sc w b s i):
  Calls prog 245 #[.pointer (some ⟨b,0,none⟩)] w fun e w'=>e=.returned (bF (link s (Sp.blk s i)).1)/\aB b s (link s (Sp.blk s i)).2 w w':=by
 have W:=aB.nh h;have hbw:b<w.heap.size:=h.lt;have hs:s.size<=600:=h.len;clear h;obtain⟨iS,wK⟩:=info_str;have HI:=hid wK;clear wK;go_in;go_wp2_with fail;refine ji (fun Q' hF=>?_);go_wp2_with fail;refine pmb (lg s b i _ W.o.1) fun w0 aj=>?_;have W0:=hid (W.o.trans aj);have R0:Hid (gX w0 w.heap.size):=(gX.new w).turn aj.2 oo;clear aj;go_wp2_with fail;go_loopg[3] s.size (fun g v3 wr=>∃(v:Av) (k:Nat) (ps:List BY),v=v3/\s.size<=k+g/\ps.length<=k/\total ps<=k/\Aside (jd s g k (aG ps)=link s (Sp.blk s i)/\wr.ownsRow (w.heap.size+1) 9 1 v ps.length (ps.map Value.string)/\aB b s k w wr/\gX wr w.heap.size))
 case atStart=>exact⟨_,Sp.blk s i,[],rfl,oo,by simp,by simp[total],rfl,World.ownsRow_nil _ _ _ _,W0.o,R0.o⟩
 case round=>
  obtain⟨v3,k,ps,rfl,hk,hpl,hpt,hA⟩:=hrel;have H1:=hid hA.o.1;have HO:=hid hA.o.2.1;have H2:=hid hA.o.2.2.1;have HR:=hid hA.o.2.2.2;clear hA;have c02:=H2.o.1.c0;have c12:=H2.o.1.c1;have cf2:=H2.o.1.f1;have cl2:=H2.o.1.lt;have cs2:=H2.o.1.len;have ce2:=H2.o.1.le;by_cases hend:s.size<=k
  .have e0:(pk s k == -1)=true:=by rw[oK hend];rfl
   have HV:Hid (link s (Sp.blk s i)=(Tok.w 12 (aG ps),k)):=by
    show _=_;rw[<-H1.o];cases gk with
    |zero=>rfl
    |succ f=>unfold jd;rw[if_pos hend]
   go_wp2_with fail;refine cZ (ak s b (k) _ (k) _ (H2.o.1) ⟨oo,oo,oo⟩) fun nq=>?_;go_wp2_with fail;go_step3
   refine hF.go _ _ _ _ rfl ?_;clear hF;go_wp2_with fail;refine pmb (dQ ps (w.heap.size+1) v3 _ (bP HO.o _) oo oo) fun w5 hb5=>?_;have W5:Hid (aB b s (k) w w5):=(H2.o.drewN _).below hb5;have R5:Hid (gX w5 w.heap.size):=(HR.o.drewN _).below hb5;clear hb5;have r0:=R5.o.c0;have r1:=R5.o.c1;have r2:=R5.o.c2;have rf:=R5.o.f;have rl:=R5.o.lt;go_wp2_with fail;try rw[Exit.noGoto_ret]
   refine bodyPost_ret (v:=bF (Tok.w 12 (aG ps))) (by simp[results,Tryz.results245,go_sem,bF,Tok.w,r0,r1,r2];rfl) rfl ⟨?_,?_⟩
   .rw[HV.o]
   .rw[HV.o];exact((W5.o.cu hbw nl _ _).cu hbw nl _ _).cu hbw nl _ _
  .have hlt:k<s.size:=oo;have e0:(pk s k == -1)=false:=by have:=tK hlt;simp;omega
   obtain⟨f,rfl⟩:∃f,gk=f+1:=⟨gk-1,oo⟩;have kT:=H1.o;unfold jd at kT;rw[if_neg hend]at kT;by_cases h41:pk s k=41
   .have e1:(pk s k==41)=true:=by rw[h41];rfl
    have HV:Hid (link s (Sp.blk s i)=(Tok.w 12 (aG ps),k+1)):=by show _=_;rw[<-kT,if_pos h41]
    clear h41 kT;go_wp2_with fail;refine cZ (ak s b (k) _ (k) _ (H2.o.1) ⟨oo,oo,oo⟩) fun nq=>?_;go_wp2_with fail;go_step3
    refine hF.go _ _ _ _ rfl ?_;clear hF;go_wp2_with fail;refine pmb (dQ ps (w.heap.size+1) v3 _ (eF (bP HO.o _) ((Turn.refl b _).setCell 1 _) oo) oo oo) fun w5 hb5=>?_;have W5:Hid (aB b s (k+1) w w5):=((H2.o.drewN _).iP _ (k+1) oo oo).below hb5;have R5:Hid (gX w5 w.heap.size):=((HR.o.drewN _).set oo _).below hb5;clear hb5;have r0:=R5.o.c0;have r1:=R5.o.c1;have r2:=R5.o.c2;have rf:=R5.o.f;have rl:=R5.o.lt;go_wp2_with fail;try rw[Exit.noGoto_ret]
    refine bodyPost_ret (v:=bF (Tok.w 12 (aG ps))) (by simp[results,Tryz.results245,go_sem,bF,Tok.w,r0,r1,r2];rfl) rfl ⟨?_,?_⟩
    .rw[HV.o]
    .rw[HV.o];exact((W5.o.cu hbw nl _ _).cu hbw nl _ _).cu hbw nl _ _
   .have e1:(pk s k==41)=false:=by simpa using h41
    rw[if_neg h41]at kT;clear h41;cases hbl:aO (pk s k)
    .rw[if_neg (by simp[hbl])]at kT;cases he:kY s k
     .rw[if_neg (by simp[he])]at kT;cases hsp:Eb (pk s k)
      .rw[if_neg (by simp[hsp])]at kT;have HV:Hid (jd s f (k+1) (aG (ps++[one s k]))=link s (Sp.blk s i)):=by show _=_;rw[dw];exact kT
       have hsz:Hid ((one s k).size=1):=iQ hlt;clear kT;go_wp2_with fail;refine cZ (ak s b (k) _ (k) _ (H2.o.1) ⟨oo,oo,oo⟩) fun nq=>?_;go_wp2_with fail;refine jA (aW _ _) ?_;go_wp2_with fail;refine cZ (fA s b (k) _ (k) _ (H2.o.1.drewN _) ⟨oo,oo,oo⟩) fun nq=>?_;go_wp2_with fail;refine jA (BI _ _) ?_;go_wp2_with fail;refine pmb (Ap s b k _ (H2.o.1.drewN _) hlt) fun w1 aj=>?_;have W1:Hid (aB b s (k+1) w w1):=(H2.o.drewN _).trans aj;have uS:Hid (w1.ownsRow (w.heap.size+1) 9 1 v3 ps.length (ps.map Value.string)):=eF (bP HO.o _) aj.2 oo;have R1:Hid (gX w1 w.heap.size):=(HR.o.drewN _).turn aj.2 oo;clear aj;have hw1:=W1.o.2.size;have hw2:=R1.o.lt
       go_wp2_with(at_builtin;refine wpList_append_own _ rfl _ _ 26 rfl (w.heap.size+1) 9 iS (.string ⟨#[]⟩) 1 16 Tryz.underlying26 HI.o.1 HI.o.2.1 HI.o.2.2.1 HI.o.2.2.2 rfl oo v3 ps.length (ps.map Value.string) rfl (uS.o.alloc _) ⟨w1.heap.size,0,none⟩ 1 1 [.string (one s k)] rfl rfl (cell_one_new _ _ _) (aT _) ?_ ?_ ?_ ?_)
       .unfold maxLen;omega
       .omega
       .simp;omega
       intro v4 w2 hown2 jk _;have W2:Hid (aB b s (k+1) w w2):=(W1.o.alloc _).grown jk hbw (fun r hr=>by have:=(uS.o.lt r hr).1;omega);have FW:=hid hown2;have R2:Hid (gX w2 w.heap.size):=(R1.o.alloc _).grown jk (fun r hr=>by have:=(uS.o.lt r hr).1;omega);clear hown2 jk;go_wp2_with fail;go_roundg f;case measure=>omega
       case rel=>
        refine⟨v4,k+1,ps++[one s k],rfl,oo,by simp;omega,?_,HV.o,?_,W2.o,R2.o⟩
        .have:=hsz.o;simp[dh,total,this];omega
        .simpa using FW.o
      .rw[if_pos hsp]at kT;have HV:=hid kT.symm;clear kT;go_wp2_with fail;refine cZ (ak s b (k) _ (k) _ (H2.o.1) ⟨oo,oo,oo⟩) fun nq=>?_;go_wp2_with fail;refine jA (aW _ _) ?_;go_wp2_with fail;refine cZ (fA s b (k) _ (k) _ (H2.o.1.drewN _) ⟨oo,oo,oo⟩) fun nq=>?_;go_wp2_with fail;refine jA (BI _ _) ?_;go_wp2_with fail;go_step3
       refine hF.go _ _ _ _ rfl ?_;clear hF;go_wp2_with fail;refine pmb (zW s b (k) _ ((H2.o.drewN _)).1) fun w5 aj=>?_;have W5:Hid (aB b s (bad s (k)) w w5):=((H2.o.drewN _)).trans aj;have R5:Hid (gX w5 w.heap.size):=((HR.o.drewN _)).turn aj.2 oo;clear aj;have r0:=R5.o.c0;have r1:=R5.o.c1;have r2:=R5.o.c2;have rf:=R5.o.f;have rl:=R5.o.lt;go_wp2_with fail;try rw[Exit.noGoto_ret]
       refine bodyPost_ret (v:=bF (Tok.k 13)) (by simp[results,Tryz.results245,go_sem,bF,Tok.k,r0,r1,r2];rfl) rfl ⟨?_,?_⟩
       .rw[HV.o]
       .rw[HV.o];exact((W5.o.cu hbw nl _ _).cu hbw nl _ _).cu hbw nl _ _
     .rw[if_pos he]at kT;have hge:=uX hlt;have hgt:=oL s k;have HV:Hid (jd s f (esc s k).2 (aG (ps++[(esc s k).1]))=link s (Sp.blk s i)):=by show _=_;rw[dw];exact kT
      have hsz:Hid ((esc s k).1.size=1):=kN;clear kT;go_wp2_with fail;refine cZ (ak s b (k) _ (k) _ (H2.o.1) ⟨oo,oo,oo⟩) fun nq=>?_;go_wp2_with fail;refine jA (aW _ _) ?_;go_wp2_with fail;refine cZ (fA s b (k) _ (k) _ (H2.o.1.drewN _) ⟨oo,oo,oo⟩) fun nq=>?_;go_wp2_with fail;refine pmb (BU s b k _ (H2.o.1.drewN _) hlt) fun w1 aj=>?_;have W1:Hid (aB b s ((esc s k).2) w w1):=(H2.o.drewN _).trans aj;have uS:Hid (w1.ownsRow (w.heap.size+1) 9 1 v3 ps.length (ps.map Value.string)):=eF (bP HO.o _) aj.2 oo;have R1:Hid (gX w1 w.heap.size):=(HR.o.drewN _).turn aj.2 oo;clear aj;have hw1:=W1.o.2.size;have hw2:=R1.o.lt
      go_wp2_with(at_builtin;refine wpList_append_own _ rfl _ _ 26 rfl (w.heap.size+1) 9 iS (.string ⟨#[]⟩) 1 16 Tryz.underlying26 HI.o.1 HI.o.2.1 HI.o.2.2.1 HI.o.2.2.2 rfl oo v3 ps.length (ps.map Value.string) rfl (uS.o.alloc _) ⟨w1.heap.size,0,none⟩ 1 1 [.string ((esc s k).1)] rfl rfl (cell_one_new _ _ _) (aT _) ?_ ?_ ?_ ?_)
      .unfold maxLen;omega
      .omega
      .simp;omega
      intro v4 w2 hown2 jk _;have W2:Hid (aB b s ((esc s k).2) w w2):=(W1.o.alloc _).grown jk hbw (fun r hr=>by have:=(uS.o.lt r hr).1;omega);have FW:=hid hown2;have R2:Hid (gX w2 w.heap.size):=(R1.o.alloc _).grown jk (fun r hr=>by have:=(uS.o.lt r hr).1;omega);clear hown2 jk;go_wp2_with fail;go_roundg f;case measure=>omega
      case rel=>
       refine⟨v4,(esc s k).2,ps++[(esc s k).1],rfl,oo,by simp;omega,?_,HV.o,?_,W2.o,R2.o⟩
       .have:=hsz.o;simp[dh,total,this];omega
       .simpa using FW.o
    .rw[if_pos hbl]at kT;have hbg:=Vp hbl;have ajh:=Oh (s:=s) (i:=k) oo;generalize hkb:Sp.blk s k=kb at *;have HKB:=hid hkb;clear hkb;by_cases hbe:s.size<=kb
     .have hnone:(pk s kb != -1)=false:=by rw[oK hbe];rfl
      have ak8:(pk s kb != 41)=true:=by rw[oK hbe];rfl
      rw[if_pos hbe]at kT;have HV:Hid (jd s f kb (aG ps)=link s (Sp.blk s i)):=by
       show _=_;rw[<-kT];cases f with
       |zero=>rfl
       |succ f'=>unfold jd;rw[if_pos hbe]
      clear kT;go_wp2_with fail;refine cZ (ak s b (k) _ (k) _ (H2.o.1) ⟨oo,oo,oo⟩) fun nq=>?_;go_wp2_with fail;refine jA (aW _ _) ?_;go_wp2_with fail;refine pmb (lg s b k _ (H2.o.1.drewN _)) fun w1 aj=>?_;have W1:Hid (aB b s kb w w1):=by have:=(H2.o.drewN _).trans aj;rw[HKB.o]at this;exact this
      have uS:Hid (w1.ownsRow (w.heap.size+1) 9 1 v3 ps.length (ps.map Value.string)):=eF (bP HO.o _) aj.2 oo;have R1:Hid (gX w1 w.heap.size):=(HR.o.drewN _).turn aj.2 oo;clear aj;go_wp2_with fail;refine cZ (ak s b (kb) _ (kb) _ (W1.o.1) ⟨oo,oo,oo⟩) fun nq=>?_;go_wp2_with fail;refine cZ (ak s b (kb) _ (kb) _ (W1.o.1.drewN _) ⟨oo,oo,oo⟩) fun nq=>?_;go_wp2_with fail;go_roundg f;case measure=>omega
      case rel=>exact⟨v3,kb,ps,rfl,oo,oo,oo,HV.o,bP uS.o _,W1.o.drewN _,R1.o.drewN _⟩
     .have hlb:kb<s.size:=oo;have hnone:(pk s kb != -1)=true:=by have:=tK hlb;simp;omega
      rw[if_neg hbe]at kT;by_cases V7:pk s kb=41
      .have ak8:(pk s kb != 41)=false:=by rw[V7];rfl
       rw[if_pos V7]at kT;have HV:Hid (jd s f kb (aG ps)=link s (Sp.blk s i)):=by show _=_;rw[<-kT];obtain⟨f',rfl⟩:∃f',f=f'+1:=⟨f-1,oo⟩;unfold jd;rw[if_neg hbe,if_pos V7]
       clear kT V7;go_wp2_with fail;refine cZ (ak s b (k) _ (k) _ (H2.o.1) ⟨oo,oo,oo⟩) fun nq=>?_;go_wp2_with fail;refine jA (aW _ _) ?_;go_wp2_with fail;refine pmb (lg s b k _ (H2.o.1.drewN _)) fun w1 aj=>?_;have W1:Hid (aB b s kb w w1):=by have:=(H2.o.drewN _).trans aj;rw[HKB.o]at this;exact this
       have uS:Hid (w1.ownsRow (w.heap.size+1) 9 1 v3 ps.length (ps.map Value.string)):=eF (bP HO.o _) aj.2 oo;have R1:Hid (gX w1 w.heap.size):=(HR.o.drewN _).turn aj.2 oo;clear aj;go_wp2_with fail;refine cZ (ak s b (kb) _ (kb) _ (W1.o.1) ⟨oo,oo,oo⟩) fun nq=>?_;go_wp2_with fail;go_roundg f;case measure=>omega
       case rel=>exact⟨v3,kb,ps,rfl,oo,oo,oo,HV.o,bP uS.o _,W1.o.drewN _,R1.o.drewN _⟩
      .have ak8:(pk s kb != 41)=true:=by simpa using V7
       rw[if_neg V7]at kT;have HV:=hid kT.symm;clear kT V7;go_wp2_with fail;refine cZ (ak s b (k) _ (k) _ (H2.o.1) ⟨oo,oo,oo⟩) fun nq=>?_;go_wp2_with fail;refine jA (aW _ _) ?_;go_wp2_with fail;refine pmb (lg s b k _ (H2.o.1.drewN _)) fun w1 aj=>?_;have W1:Hid (aB b s kb w w1):=by have:=(H2.o.drewN _).trans aj;rw[HKB.o]at this;exact this
       have uS:Hid (w1.ownsRow (w.heap.size+1) 9 1 v3 ps.length (ps.map Value.string)):=eF (bP HO.o _) aj.2 oo;have R1:Hid (gX w1 w.heap.size):=(HR.o.drewN _).turn aj.2 oo;clear aj;go_wp2_with fail;refine cZ (ak s b (kb) _ (kb) _ (W1.o.1) ⟨oo,oo,oo⟩) fun nq=>?_;go_wp2_with fail;refine cZ (ak s b (kb) _ (kb) _ (W1.o.1.drewN _) ⟨oo,oo,oo⟩) fun nq=>?_;go_wp2_with fail;go_step3
       refine hF.go _ _ _ _ rfl ?_;clear hF;go_wp2_with fail;refine pmb (zW s b (kb) _ ((W1.o.drewN _)).1) fun w5 aj=>?_;have W5:Hid (aB b s (bad s (kb)) w w5):=((W1.o.drewN _)).trans aj;have R5:Hid (gX w5 w.heap.size):=((R1.o.drewN _)).turn aj.2 oo;clear aj;have r0:=R5.o.c0;have r1:=R5.o.c1;have r2:=R5.o.c2;have rf:=R5.o.f;have rl:=R5.o.lt;go_wp2_with fail;try rw[Exit.noGoto_ret]
       refine bodyPost_ret (v:=bF (Tok.k 13)) (by simp[results,Tryz.results245,go_sem,bF,Tok.k,r0,r1,r2];rfl) rfl ⟨?_,?_⟩
       .rw[HV.o]
       .rw[HV.o];exact((W5.o.cu hbw nl _ _).cu hbw nl _ _).cu hbw nl _ _
theorem AP(s:BY):∀f i acc,i<=s.size->(iK s f i acc).1.size+i<=acc.size+(iK s f i acc).2
 |0,i,acc,h=>Nat.le_refl _
 |f+1,i,acc,h=>by
  unfold iK;split
  .rename_i h1;have hl:=dY (uV h1);have:=AP s f (i+1) (acc++one s i) oo;have h2:=iQ hl;rw[ByteArray.size_append,h2]at this;omega
  .split
   .rename_i h1;have hl:=Oc h1;have:=AP s f (esc s i).2 (acc++(esc s i).1) (uX hl);have h2:=kN (s:=s) (i:=i);have h3:=oL s i;rw[ByteArray.size_append,h2]at this;omega
   .exact Nat.le_refl _
theorem aat{s:BY}{i:Nat}(h:i<=s.size):(name s i).1.size<=s.size:=by have h1:=AP s s.size i ByteArray.empty h;have h2:=yV h;have h3:ByteArray.empty.size=0:=rfl;unfold name at h2⊢;omega
theorem Nj(x:BY):(x.toList==[117,114,108])=decide (x=url):=by
 rw[Bool.eq_iff_iff];simp only[beq_iff_eq,decide_eq_true_eq];rw[ByteArray.toList_eq];constructor
 .intro h;obtain⟨⟨l⟩⟩:=x;simp only at h;rw[h];rfl
 .intro h;rw[h];rfl
theorem OE(s:BY)(b i:Nat)(w:WD)(h:Sc w b s i):
  Calls prog 184 #[.pointer (some ⟨b,0,none⟩)] w fun e w'=>e=.returned (bF (named s i).1)/\aB b s (named s i).2 w w':=by
 have W:=aB.nh h;have R:=gX.nh w;have hbw:b<w.heap.size:=h.lt;have hs:s.size<=600:=h.len;clear h;have hns:=aat W.o.1.le;have hnl:=yV W.o.1.le;obtain⟨x,k,HX⟩:∃x k,Hid (name s i=(x,k)):=⟨_,_,rfl⟩;have ano:x.size<=s.size:=by have:=HX.o;rw[this]at hns;exact hns
 have anp:k<=s.size:=by have:=HX.o;rw[this]at hnl;exact hnl
 clear hns hnl;by_cases Gt:pk s k=40
 .have e0:(pk s k != 40)=false:=by rw[Gt];rfl
  have hlt:k<s.size:=dY oo;by_cases hu:small x=url
  .have eu:((small x).toList==[117,114,108])=true:=by rw[Nj];simp[hu]
   cases hq:dD (pk s (Sp.blk s (k+1)))
   .have HV:Hid (named s i=link s (Sp.blk s (k+1))):=by
     show _=_;unfold named;rw[HX.o];dsimp only;rw[if_pos Gt,if_pos ⟨hu,hq⟩]
    clear Gt hu;go_in;go_wp2_with fail;refine(Ar s b i _ W.o.1).mono ?_;rw[HX.o];rintro e w1 ⟨rfl,aj⟩;have W1:=hid (W.o.trans aj);have R1:=hid (R.o.turn aj.2 oo);clear aj;have c01:=W1.o.1.c0;have c11:=W1.o.1.c1;have cf1:=W1.o.1.f1;have cl1:=W1.o.1.lt;have cs1:=W1.o.1.len;have ce1:=W1.o.1.le;go_wp2_with fail;refine cZ (ak s b (k) _ (k) _ (W1.o.1) ⟨oo,oo,oo⟩) fun nq=>?_;go_wp2_with fail;refine pmb (nH x _ oo) fun w2 hb2=>?_;have W2:Hid (aB b s (k+1) w w2):=((W1.o.drewN _).iP _ (k+1) oo oo).below hb2;have R2:Hid (gX w2 w.heap.size):=((R1.o.drewN _).set oo _).below hb2;clear hb2;go_wp2_with fail;refine pmb (xX s b (k+1) _ W2.o.1) fun w3 aj=>?_;have W3:=hid (W2.o.trans aj)
    have R3:=hid (R2.o.turn aj.2 oo);clear aj;go_wp2_with fail;refine pmb (ajg s b (k+1) _ W3.o.1) fun w4 aj=>?_;have W4:=hid (W3.o.trans aj);have R4:=hid (R3.o.turn aj.2 oo);clear aj;have r0:=R4.o.c0;have r1:=R4.o.c1;have r2:=R4.o.c2;have rf:=R4.o.f;have rl:=R4.o.lt;unfold bF;go_wp2_with fail;refine bodyPost_ret (v:=bF (link s (Sp.blk s (k+1))).1) (by simp[results,Tryz.results184,go_sem,bF,r0,r1,r2]) rfl ⟨?_,?_⟩
    .rw[HV.o]
    .rw[HV.o];exact((W4.o.cu hbw nl _ _).cu hbw nl _ _).cu hbw nl _ _
   .have HV:Hid (named s i=(Tok.w 11 x,k+1)):=by
     show _=_;unfold named;rw[HX.o];dsimp only;rw[if_pos Gt,if_neg (by simp[hq])]
    clear Gt hu;go_in;go_wp2_with fail;refine(Ar s b i _ W.o.1).mono ?_;rw[HX.o];rintro e w1 ⟨rfl,aj⟩;have W1:=hid (W.o.trans aj);have R1:=hid (R.o.turn aj.2 oo);clear aj;have c01:=W1.o.1.c0;have c11:=W1.o.1.c1;have cf1:=W1.o.1.f1;have cl1:=W1.o.1.lt;have cs1:=W1.o.1.len;have ce1:=W1.o.1.le;go_wp2_with fail;refine cZ (ak s b (k) _ (k) _ (W1.o.1) ⟨oo,oo,oo⟩) fun nq=>?_;go_wp2_with fail;refine pmb (nH x _ oo) fun w2 hb2=>?_;have W2:Hid (aB b s (k+1) w w2):=((W1.o.drewN _).iP _ (k+1) oo oo).below hb2;have R2:Hid (gX w2 w.heap.size):=((R1.o.drewN _).set oo _).below hb2;clear hb2;go_wp2_with fail;refine pmb (xX s b (k+1) _ W2.o.1) fun w3 aj=>?_;have W3:=hid (W2.o.trans aj)
    have R3:=hid (R2.o.turn aj.2 oo);clear aj;have r0:=R3.o.c0;have r1:=R3.o.c1;have r2:=R3.o.c2;have rf:=R3.o.f;have rl:=R3.o.lt;go_wp2_with fail;refine bodyPost_ret (v:=bF (Tok.w 11 x)) (by simp[results,Tryz.results184,go_sem,bF,Tok.w,r0,r1,r2];rfl) rfl ⟨?_,?_⟩
    .rw[HV.o]
    .rw[HV.o];exact((W3.o.cu hbw nl _ _).cu hbw nl _ _).cu hbw nl _ _
  .have eu:((small x).toList==[117,114,108])=false:=by rw[Nj];simp[hu]
   have HV:Hid (named s i=(Tok.w 11 x,k+1)):=by show _=_;unfold named;rw[HX.o];dsimp only;rw[if_pos Gt,if_neg (by simp[hu])]
   clear Gt hu;go_in;go_wp2_with fail;refine(Ar s b i _ W.o.1).mono ?_;rw[HX.o];rintro e w1 ⟨rfl,aj⟩;have W1:=hid (W.o.trans aj);have R1:=hid (R.o.turn aj.2 oo);clear aj;have c01:=W1.o.1.c0;have c11:=W1.o.1.c1;have cf1:=W1.o.1.f1;have cl1:=W1.o.1.lt;have cs1:=W1.o.1.len;have ce1:=W1.o.1.le;go_wp2_with fail;refine cZ (ak s b (k) _ (k) _ (W1.o.1) ⟨oo,oo,oo⟩) fun nq=>?_;go_wp2_with fail;refine pmb (nH x _ oo) fun w2 hb2=>?_;have W2:Hid (aB b s (k+1) w w2):=((W1.o.drewN _).iP _ (k+1) oo oo).below hb2;have R2:Hid (gX w2 w.heap.size):=((R1.o.drewN _).set oo _).below hb2;clear hb2;have r0:=R2.o.c0;have r1:=R2.o.c1;have r2:=R2.o.c2;have rf:=R2.o.f;have rl:=R2.o.lt;go_wp2_with fail
   refine bodyPost_ret (v:=bF (Tok.w 11 x)) (by simp[results,Tryz.results184,go_sem,bF,Tok.w,r0,r1,r2];rfl) rfl ⟨?_,?_⟩
   .rw[HV.o]
   .rw[HV.o];exact((W2.o.cu hbw nl _ _).cu hbw nl _ _).cu hbw nl _ _
 .have e0:(pk s k != 40)=true:=by simpa using Gt
  have HV:Hid (named s i=(Tok.w 14 x,k)):=by show _=_;unfold named;rw[HX.o];dsimp only;rw[if_neg Gt]
  clear Gt;go_in;go_wp2_with fail;refine(Ar s b i _ W.o.1).mono ?_;rw[HX.o];rintro e w1 ⟨rfl,aj⟩;have W1:=hid (W.o.trans aj);have R1:=hid (R.o.turn aj.2 oo);clear aj;have c01:=W1.o.1.c0;have c11:=W1.o.1.c1;have cf1:=W1.o.1.f1;have cl1:=W1.o.1.lt;have cs1:=W1.o.1.len;have ce1:=W1.o.1.le;go_wp2_with fail;refine cZ (ak s b (k) _ (k) _ (W1.o.1) ⟨oo,oo,oo⟩) fun nq=>?_;have r0:=R1.o.c0;have r1:=R1.o.c1;have r2:=R1.o.c2;have rf:=R1.o.f;have rl:=R1.o.lt;go_wp2_with fail;refine bodyPost_ret (v:=bF (Tok.w 14 x)) (by simp[results,Tryz.results184,go_sem,bF,Tok.w,r0,r1,r2];rfl) rfl ⟨?_,?_⟩
  .rw[HV.o]
  .rw[HV.o];exact(((W1.o.drewN _).cu hbw nl _ _).cu hbw nl _ _).cu hbw nl _ _
theorem xY(s:BY)(b i:Nat)(t:BY)(w:WD)(h:Sc w b s i):
  Calls prog 173 #[.pointer (some ⟨b,0,none⟩),.string t] w fun e w'=>e=.returned (.bool (pre s i t.data.toList))/\∃n,w'=w.drewN n:=by
 have h0:=h.c0;have h1:=h.c1;have hs:=h.len;have hi:=h.le;clear h;rw[<-afT];go_in;go_wp2_with fail;go_quiet ((go_at_call 105;exact Calls.quiet_of_same (Tryz.strings_HasPrefix _ _ _)))
 go_wp2_with fail;go_ret;exact⟨rfl,_,rfl⟩
theorem YI(s:BY)(l:Int)(k:Nat)(hl:l=k)(h:k<=s.size)(w:WD):(Instr.slice 9 (.string s) (some (.int .i64 l)) none none).run prog w=.ok (.string (s.extract k s.size)) w:=by subst hl;have:=run_slice_string_l (P:=prog) (w:=w) (t:=9) (s:=s) (ht:=Tryz.underlying9) .i64 (k:Int) oo oo;simpa using this
theorem aau(s:BY)(k:Nat)(m:Int)(w:WD)(h6:s.size<=600)(hk:k<=s.size)(hst:s.size<=star s k)(hm:w.cell? ⟨0,0,none⟩=some (.int .i64 m)):
  Calls prog 174 #[.string (s.extract k s.size),.string ⟨#[42,47]⟩] w fun e w'=>e=.returned (.int .i64 (-1))/\w'=w:=by
 refine(Tryz.strings_Index _ _ m w An hm).mono ?_;rintro e w' ⟨rfl,rfl⟩;exact⟨aiO (Ib hk hst),rfl⟩
theorem acR(s:BY)(k:Nat)(m:Int)(w:WD)(h6:s.size<=600)(hk:k<=s.size)(hst:star s k<s.size)(hm:w.cell? ⟨0,0,none⟩=some (.int .i64 m)):
  Calls prog 174 #[.string (s.extract k s.size),.string ⟨#[42,47]⟩] w fun e w'=>e=.returned (.int .i64 ((star s k-k:Nat):Int))/\w'=w:=by
 refine(Tryz.strings_Index _ _ m w An hm).mono ?_;rintro e w' ⟨rfl,rfl⟩;exact⟨aiO (by rw[show(⟨#[42,47]⟩:BY).data.toList=[42,47] from rfl,KW hk hst];have:=Ol s k;omega),rfl⟩
theorem RD(s:BY)(i:Nat):pre s i [47,42]=(pk s i==47&&pk s (i+1)==42):=by simp[pre]
theorem IV(s:BY)(b i:Nat)(w:WD)(h:Sc w b s i):
  Calls prog 112 #[.pointer (some ⟨b,0,none⟩)] w fun e w'=>e=.returned (.tuple #[])/\aB b s (com s i) w w':=by
 have W:Hid (aB b s i w w):=aB.refl h;clear h;go_in;go_wp2_with fail;refine ji (fun Q' hF=>?_);go_wp2_with fail;go_loopg[] s.size (fun g wr=>∃k:Nat,s.size<=k+g/\Aside (Bv s g k=com s i/\aB b s k w wr));case atStart=>exact⟨i,oo,rfl,W.o⟩
 case round=>
  obtain⟨k,hk,hA⟩:=hrel;have H1:=hid hA.o.1;have H2:=hid hA.o.2;clear hA;have c02:=H2.o.1.c0;have c12:=H2.o.1.c1;have cf2:=H2.o.1.f1;have cl2:=H2.o.1.lt;have cs2:=H2.o.1.len;have ce2:=H2.o.1.le;cases hpre:pre s k [47,42]
  .have HV:Hid (com s i=k):=by
    show _=_;rw[RD]at hpre;rw[<-H1.o];cases gk with
    |zero=>rfl
    |succ f=>unfold Bv;rw[if_neg (fun h=>by simp[h]at hpre)]
   go_wp2_with fail;refine cZ (xY s b k _ _ H2.o.1) fun nq=>?_;go_wp2_with fail;go_step3
   refine hF.norm _ _ ?_;go_end0
   refine⟨rfl,?_⟩;rw[HV.o];exact H2.o.drewN _
  .have ho:pk s k=47/\pk s (k+1)=42:=by rw[RD]at hpre;simpa using hpre
   have hlt:k+1<s.size:=dY oo;have hge:=Ol s (k+2);have hle:=afL (s:=s) (k:=k+2) oo;obtain⟨f,rfl⟩:∃f,gk=f+1:=⟨gk-1,oo⟩;have kT:=H1.o;unfold Bv at kT;rw[if_pos ho]at kT;clear ho;by_cases hst:s.size<=star s (k+2)
   .rw[if_pos hst]at kT;have HV:=hid kT.symm;clear kT;go_wp2_with fail;refine(xY s b k _ _ H2.o.1).mono ?_;rintro e wq ⟨rfl,nq,hwq⟩;have W1:Hid (aB b s k w wq):=by show aB b s k w wq;rw[hwq];exact H2.o.drewN nq
    clear hwq;have c03:=W1.o.1.c0;have c13:=W1.o.1.c1;have cf3:=W1.o.1.f1;have cl3:=W1.o.1.lt;have cs3:=W1.o.1.len;have ce3:=W1.o.1.le;go_wp2_with fail;obtain⟨m,hm⟩:=W1.o.1.glob;have hw2:IntKind.i64.wrap ((k:Int)+2)=(k:Int)+2:=by rw[IntKind.wrap_i64];omega
    have hsl:=YI s ((k:Int)+2) (k+2) oo oo;go_quiet ((go_at_call 174;exact Calls.quiet_of_same (aau s (k+2) m _ oo oo hst hm)))
    go_wp2_with fail;go_step3
    refine hF.go _ _ _ _ rfl ?_;clear hF;go_wp2
    simp only[Exit.noGoto];go_end0
    refine⟨rfl,?_⟩;rw[HV.o];exact(W1.o.drewN _).iP _ s.size rfl nl
   .have hst':star s (k+2)<s.size:=oo;have hle2:=GZ hst';rw[if_neg hst]at kT;have HV:=hid kT;clear kT;go_wp2_with fail;refine(xY s b k _ _ H2.o.1).mono ?_;rintro e wq ⟨rfl,nq,hwq⟩;have W1:Hid (aB b s k w wq):=by show aB b s k w wq;rw[hwq];exact H2.o.drewN nq
    clear hwq;have c03:=W1.o.1.c0;have c13:=W1.o.1.c1;have cf3:=W1.o.1.f1;have cl3:=W1.o.1.lt;have cs3:=W1.o.1.len;have ce3:=W1.o.1.le;go_wp2_with fail;obtain⟨m,hm⟩:=W1.o.1.glob;have hw2:IntKind.i64.wrap ((k:Int)+2)=(k:Int)+2:=by rw[IntKind.wrap_i64];omega
    have hsl:=YI s ((k:Int)+2) (k+2) oo oo;go_quiet ((go_at_call 174;exact Calls.quiet_of_same (acR s (k+2) m _ oo oo hst' hm)))
    generalize hd:star s (k+2)-(k+2)=d;have hd1:star s (k+2)=k+2+d:=oo;have HD:=hid hd1;have hd2:k+2+d+2<=s.size:=oo;clear hd hd1 hst hst' hge hle hle2;go_wp2_with fail;go_roundg f;case measure=>omega
    case rel=>refine⟨k+2+d+2,oo,?_,(W1.o.drewN _).iP _ (k+2+d+2) oo oo⟩;rw[<-HD.o];exact HV.o
theorem amG(s:BY)(i:Nat):pre s i [60,33,45,45]=kG s i:=by simp[pre,kG,Bool.and_assoc]
theorem amH(s:BY)(i:Nat):pre s i [45,45,62]=kL s i:=by simp[pre,kL,Bool.and_assoc]
theorem jH(s:BY)(b i:Nat)(w:WD)(h:Sc w b s i):
  Calls prog 173 #[.pointer (some ⟨b,0,none⟩),.string ⟨#[60,33,45,45]⟩] w fun e w'=>e=.returned (.bool (kG s i))/\∃n,w'=w.drewN n:=by
 rw[<-amG];exact xY s b i _ w h
theorem lF(s:BY)(b i:Nat)(w:WD)(h:Sc w b s i):
  Calls prog 173 #[.pointer (some ⟨b,0,none⟩),.string ⟨#[45,45,62]⟩] w fun e w'=>e=.returned (.bool (kL s i))/\∃n,w'=w.drewN n:=by
 rw[<-amH];exact xY s b i _ w h
theorem RF(s:BY)(b i:Nat)(w:WD)(h:Sc w b s i)(hi:i<s.size)(hbl:aO (pk s i)=true)(HV:Hid (token s i=(Tok.k 1,Sp.blk s i))):
  Calls prog 114 #[.pointer (some ⟨b,0,none⟩)] w fun e w'=>e=.returned (bF (token s i).1)/\aB b s (token s i).2 w w':=by
 have W:=aB.nh h;have R:=gX.nh w;have hbw:b<w.heap.size:=h.lt;have hs:s.size<=600:=h.len;have _hi:=hi;clear h;have c00:=W.o.1.c0;have c10:=W.o.1.c1;have KY:=W.o.1.f1;have KZ:=W.o.1.lt;have cs0:=W.o.1.len;have La:=W.o.1.le;go_in;go_wp2_with fail;refine cZ (ak s b (i) _ (i) _ (W.o.1) ⟨oo,oo,oo⟩) fun nq=>?_;go_wp2_with fail;refine jA (aW _ _) ?_;go_wp2_with fail;refine pmb (lg s b i _ (W.o.1.drewN _)) fun w1 aj=>?_;have W1:Hid (aB b s (Sp.blk s i) w w1):=(W.o.drewN _).trans aj;have R1:Hid (gX w1 w.heap.size):=(R.o.drewN _).turn aj.2 oo;clear aj;have r0:=R1.o.c0;have r1:=R1.o.c1;have r2:=R1.o.c2;have rf:=R1.o.f;have rl:=R1.o.lt;go_wp2_with fail
 refine bodyPost_ret (v:=bF (Tok.k 1)) (by simp[results,Tryz.results114,go_sem,bF,Tok.k,r0,r1,r2];rfl) rfl ⟨?_,?_⟩
 .rw[HV.o]
 .rw[HV.o];exact((W1.o.cu hbw nl _ _).cu hbw nl _ _).cu hbw nl _ _
theorem V8(s:BY)(b i:Nat)(w:WD)(h:Sc w b s i)(hi:i<s.size)(hbl:aO (pk s i)=false)(zX:dD (pk s i)=true)(HV:Hid (token s i=txt s (pk s i) (i+1))):
  Calls prog 114 #[.pointer (some ⟨b,0,none⟩)] w fun e w'=>e=.returned (bF (token s i).1)/\aB b s (token s i).2 w w':=by
 have W:=aB.nh h;have R:=gX.nh w;have hbw:b<w.heap.size:=h.lt;have hs:s.size<=600:=h.len;have _hi:=hi;clear h;have c00:=W.o.1.c0;have c10:=W.o.1.c1;have KY:=W.o.1.f1;have KZ:=W.o.1.lt;have cs0:=W.o.1.len;have La:=W.o.1.le;go_in;go_wp2_with fail;refine cZ (ak s b (i) _ (i) _ (W.o.1) ⟨oo,oo,oo⟩) fun nq=>?_;go_wp2_with fail;refine jA (aW _ _) ?_;go_wp2_with fail;refine jA (fH _ _) ?_;go_wp2_with fail;refine pmb (ajf s b i _ (W.o.1.drewN _) hi) fun w1 aj=>?_;have W1:Hid (aB b s (txt s (pk s i) (i+1)).2 w w1):=(W.o.drewN _).trans aj;have R1:Hid (gX w1 w.heap.size):=(R.o.drewN _).turn aj.2 oo;clear aj;have r0:=R1.o.c0;have r1:=R1.o.c1;have r2:=R1.o.c2;have rf:=R1.o.f;have rl:=R1.o.lt;unfold bF;go_wp2_with fail
 refine bodyPost_ret (v:=bF ((txt s (pk s i) (i+1)).1)) (by simp[results,Tryz.results114,go_sem,bF,r0,r1,r2]) rfl ⟨?_,?_⟩
 .rw[HV.o]
 .rw[HV.o];exact((W1.o.cu hbw nl _ _).cu hbw nl _ _).cu hbw nl _ _
theorem V9(s:BY)(b i:Nat)(w:WD)(h:Sc w b s i)(hi:i<s.size)(hbl:aO (pk s i)=false)(zX:dD (pk s i)=false)(hha:(pk s i==35)=true)(hgo:jT s (i+1)=true)(HV:Hid (token s i=(Tok.w 4 (Sp.name s (i+1)).1,(Sp.name s (i+1)).2))):
  Calls prog 114 #[.pointer (some ⟨b,0,none⟩)] w fun e w'=>e=.returned (bF (token s i).1)/\aB b s (token s i).2 w w':=by
 have W:=aB.nh h;have R:=gX.nh w;have hbw:b<w.heap.size:=h.lt;have hs:s.size<=600:=h.len;have _hi:=hi;clear h;have c00:=W.o.1.c0;have c10:=W.o.1.c1;have KY:=W.o.1.f1;have KZ:=W.o.1.lt;have cs0:=W.o.1.len;have La:=W.o.1.le;go_in;go_wp2_with fail;refine cZ (ak s b (i) _ (i) _ (W.o.1) ⟨oo,oo,oo⟩) fun nq=>?_;go_wp2_with fail;refine jA (aW _ _) ?_;go_wp2_with fail;refine jA (fH _ _) ?_;go_wp2_with fail;refine cZ (kZ s b (i) _ (i+1) _ (W.o.1.drewN _) ⟨oo,oo,oo⟩) fun nq=>?_;go_wp2_with fail;refine pmb (Ar s b (i+1) _ ((W.o.1.drewN _).iP _ (i+1) oo oo)) fun w1 aj=>?_;have W1:Hid (aB b s (Sp.name s (i+1)).2 w w1):=((W.o.drewN _).iP _ (i+1) oo oo).trans aj
 have R1:Hid (gX w1 w.heap.size):=((R.o.drewN _).set oo _).turn aj.2 oo;clear aj;have r0:=R1.o.c0;have r1:=R1.o.c1;have r2:=R1.o.c2;have rf:=R1.o.f;have rl:=R1.o.lt;go_wp2_with fail;refine bodyPost_ret (v:=bF (Tok.w 4 (Sp.name s (i+1)).1)) (by simp[results,Tryz.results114,go_sem,bF,Tok.w,r0,r1,r2];rfl) rfl ⟨?_,?_⟩
 .rw[HV.o]
 .rw[HV.o];exact((W1.o.cu hbw nl _ _).cu hbw nl _ _).cu hbw nl _ _
theorem RG(s:BY)(b i:Nat)(w:WD)(h:Sc w b s i)(hi:i<s.size)(hbl:aO (pk s i)=false)(zX:dD (pk s i)=false)(hha:(pk s i==35)=false)(hnu:iO s i=true)(HV:Hid (token s i=Sp.numeric s i)):
  Calls prog 114 #[.pointer (some ⟨b,0,none⟩)] w fun e w'=>e=.returned (bF (token s i).1)/\aB b s (token s i).2 w w':=by
 have W:=aB.nh h;have R:=gX.nh w;have hbw:b<w.heap.size:=h.lt;have hs:s.size<=600:=h.len;have _hi:=hi;clear h;have c00:=W.o.1.c0;have c10:=W.o.1.c1;have KY:=W.o.1.f1;have KZ:=W.o.1.lt;have cs0:=W.o.1.len;have La:=W.o.1.le;go_in;go_wp2_with fail;refine cZ (ak s b (i) _ (i) _ (W.o.1) ⟨oo,oo,oo⟩) fun nq=>?_;go_wp2_with fail;refine jA (aW _ _) ?_;go_wp2_with fail;refine jA (fH _ _) ?_;go_wp2_with fail;refine cZ (dn s b i _ (W.o.1.drewN _)) fun nq=>?_;go_wp2_with fail;refine pmb (Nh s b i _ (W.o.1.drewN _)) fun w1 aj=>?_;have W1:Hid (aB b s (Sp.numeric s i).2 w w1):=(W.o.drewN _).trans aj;have R1:Hid (gX w1 w.heap.size):=(R.o.drewN _).turn aj.2 oo;clear aj;have r0:=R1.o.c0
 have r1:=R1.o.c1;have r2:=R1.o.c2;have rf:=R1.o.f;have rl:=R1.o.lt;unfold bF;go_wp2_with fail;refine bodyPost_ret (v:=bF ((Sp.numeric s i).1)) (by simp[results,Tryz.results114,go_sem,bF,r0,r1,r2]) rfl ⟨?_,?_⟩
 .rw[HV.o]
 .rw[HV.o];exact((W1.o.cu hbw nl _ _).cu hbw nl _ _).cu hbw nl _ _
theorem OG(s:BY)(b i:Nat)(w:WD)(h:Sc w b s i)(hi:i<s.size)(hbl:aO (pk s i)=false)(zX:dD (pk s i)=false)(hha:(pk s i==35)=false)(hnu:iO s i=false)(hs4:kG s i=true)(hl:i+4<=s.size)(HV:Hid (token s i=(Tok.k 8,i+4))):
  Calls prog 114 #[.pointer (some ⟨b,0,none⟩)] w fun e w'=>e=.returned (bF (token s i).1)/\aB b s (token s i).2 w w':=by
 have W:=aB.nh h;have R:=gX.nh w;have hbw:b<w.heap.size:=h.lt;have hs:s.size<=600:=h.len;have _hi:=hi;clear h;have c00:=W.o.1.c0;have c10:=W.o.1.c1;have KY:=W.o.1.f1;have KZ:=W.o.1.lt;have cs0:=W.o.1.len;have La:=W.o.1.le;go_in;go_wp2_with fail;refine cZ (ak s b (i) _ (i) _ (W.o.1) ⟨oo,oo,oo⟩) fun nq=>?_;go_wp2_with fail;refine jA (aW _ _) ?_;go_wp2_with fail;refine jA (fH _ _) ?_;go_wp2_with fail;refine cZ (dn s b i _ (W.o.1.drewN _)) fun nq=>?_;go_wp2_with fail;refine cZ (jH s b i _ (W.o.1.drewN _)) fun nq=>?_;have r0:=R.o.c0;have r1:=R.o.c1;have r2:=R.o.c2;have rf:=R.o.f;have rl:=R.o.lt;go_wp2_with fail
 refine bodyPost_ret (v:=bF (Tok.k 8)) (by simp[results,Tryz.results114,go_sem,bF,Tok.k,r0,r1,r2];rfl) rfl ⟨?_,?_⟩
 .rw[HV.o]
 .rw[HV.o];exact((((W.o.drewN _).iP _ (i+4) oo oo).cu hbw nl _ _).cu hbw nl _ _).cu hbw nl _ _
theorem Lp(s:BY)(b i:Nat)(w:WD)(h:Sc w b s i)(hi:i<s.size)(hbl:aO (pk s i)=false)(zX:dD (pk s i)=false)(hha:(pk s i==35)=false)(hnu:iO s i=false)(hs4:kG s i=false)(hs3:kL s i=true)(hl:i+3<=s.size)(HV:Hid (token s i=(Tok.k 9,i+3))):
  Calls prog 114 #[.pointer (some ⟨b,0,none⟩)] w fun e w'=>e=.returned (bF (token s i).1)/\aB b s (token s i).2 w w':=by
 have W:=aB.nh h;have R:=gX.nh w;have hbw:b<w.heap.size:=h.lt;have hs:s.size<=600:=h.len;have _hi:=hi;clear h;have c00:=W.o.1.c0;have c10:=W.o.1.c1;have KY:=W.o.1.f1;have KZ:=W.o.1.lt;have cs0:=W.o.1.len;have La:=W.o.1.le;go_in;go_wp2_with fail;refine cZ (ak s b (i) _ (i) _ (W.o.1) ⟨oo,oo,oo⟩) fun nq=>?_;go_wp2_with fail;refine jA (aW _ _) ?_;go_wp2_with fail;refine jA (fH _ _) ?_;go_wp2_with fail;refine cZ (dn s b i _ (W.o.1.drewN _)) fun nq=>?_;go_wp2_with fail;refine cZ (jH s b i _ (W.o.1.drewN _)) fun nq=>?_;go_wp2_with fail;refine cZ (lF s b i _ (W.o.1.drewN _)) fun nq=>?_;have r0:=R.o.c0;have r1:=R.o.c1;have r2:=R.o.c2;have rf:=R.o.f;have rl:=R.o.lt
 go_wp2_with fail;refine bodyPost_ret (v:=bF (Tok.k 9)) (by simp[results,Tryz.results114,go_sem,bF,Tok.k,r0,r1,r2];rfl) rfl ⟨?_,?_⟩
 .rw[HV.o]
 .rw[HV.o];exact((((W.o.drewN _).iP _ (i+3) oo oo).cu hbw nl _ _).cu hbw nl _ _).cu hbw nl _ _
theorem Wh(s:BY)(b i:Nat)(w:WD)(h:Sc w b s i)(hi:i<s.size)(hbl:aO (pk s i)=false)(zX:dD (pk s i)=false)(hha:(pk s i==35)=false)(hnu:iO s i=false)(hs4:kG s i=false)(hs3:kL s i=false)(hat:(pk s i==64)=true)(hb1:iG s (i+1)=true)(HV:Hid (token s i=(Tok.w 10 (Sp.name s (i+1)).1,(Sp.name s (i+1)).2))):
  Calls prog 114 #[.pointer (some ⟨b,0,none⟩)] w fun e w'=>e=.returned (bF (token s i).1)/\aB b s (token s i).2 w w':=by
 have W:=aB.nh h;have R:=gX.nh w;have hbw:b<w.heap.size:=h.lt;have hs:s.size<=600:=h.len;have _hi:=hi;clear h;have c00:=W.o.1.c0;have c10:=W.o.1.c1;have KY:=W.o.1.f1;have KZ:=W.o.1.lt;have cs0:=W.o.1.len;have La:=W.o.1.le;go_in;go_wp2_with fail;refine cZ (ak s b (i) _ (i) _ (W.o.1) ⟨oo,oo,oo⟩) fun nq=>?_;go_wp2_with fail;refine jA (aW _ _) ?_;go_wp2_with fail;refine jA (fH _ _) ?_;go_wp2_with fail;refine cZ (dn s b i _ (W.o.1.drewN _)) fun nq=>?_;go_wp2_with fail;refine cZ (jH s b i _ (W.o.1.drewN _)) fun nq=>?_;go_wp2_with fail;refine cZ (lF s b i _ (W.o.1.drewN _)) fun nq=>?_;go_wp2_with fail
 refine cZ (fP s b (i) _ (i+1) _ (W.o.1.drewN _) ⟨oo,oo,oo⟩) fun nq=>?_;go_wp2_with fail;refine pmb (Ar s b (i+1) _ ((W.o.1.drewN _).iP _ (i+1) oo oo)) fun w1 aj=>?_;have W1:Hid (aB b s (Sp.name s (i+1)).2 w w1):=((W.o.drewN _).iP _ (i+1) oo oo).trans aj;have R1:Hid (gX w1 w.heap.size):=((R.o.drewN _).set oo _).turn aj.2 oo;clear aj;have r0:=R1.o.c0;have r1:=R1.o.c1;have r2:=R1.o.c2;have rf:=R1.o.f;have rl:=R1.o.lt;go_wp2_with fail;refine bodyPost_ret (v:=bF (Tok.w 10 (Sp.name s (i+1)).1)) (by simp[results,Tryz.results114,go_sem,bF,Tok.w,r0,r1,r2];rfl) rfl ⟨?_,?_⟩
 .rw[HV.o]
 .rw[HV.o];exact((W1.o.cu hbw nl _ _).cu hbw nl _ _).cu hbw nl _ _
theorem IW(s:BY)(b i:Nat)(w:WD)(h:Sc w b s i)(hi:i<s.size)(hbl:aO (pk s i)=false)(zX:dD (pk s i)=false)(hha:(pk s i==35)=false)(hnu:iO s i=false)(hs4:kG s i=false)(hs3:kL s i=false)(hat:(pk s i==64)=false)(hb0:iG s i=true)(HV:Hid (token s i=named s i)):
  Calls prog 114 #[.pointer (some ⟨b,0,none⟩)] w fun e w'=>e=.returned (bF (token s i).1)/\aB b s (token s i).2 w w':=by
 have W:=aB.nh h;have R:=gX.nh w;have hbw:b<w.heap.size:=h.lt;have hs:s.size<=600:=h.len;have _hi:=hi;clear h;have c00:=W.o.1.c0;have c10:=W.o.1.c1;have KY:=W.o.1.f1;have KZ:=W.o.1.lt;have cs0:=W.o.1.len;have La:=W.o.1.le;go_in;go_wp2_with fail;refine cZ (ak s b (i) _ (i) _ (W.o.1) ⟨oo,oo,oo⟩) fun nq=>?_;go_wp2_with fail;refine jA (aW _ _) ?_;go_wp2_with fail;refine jA (fH _ _) ?_;go_wp2_with fail;refine cZ (dn s b i _ (W.o.1.drewN _)) fun nq=>?_;go_wp2_with fail;refine cZ (jH s b i _ (W.o.1.drewN _)) fun nq=>?_;go_wp2_with fail;refine cZ (lF s b i _ (W.o.1.drewN _)) fun nq=>?_;go_wp2_with fail
 refine cZ (fP s b (i) _ (i) _ (W.o.1.drewN _) ⟨oo,oo,oo⟩) fun nq=>?_;go_wp2_with fail;refine pmb (OE s b i _ (W.o.1.drewN _)) fun w1 aj=>?_;have W1:Hid (aB b s (named s i).2 w w1):=(W.o.drewN _).trans aj;have R1:Hid (gX w1 w.heap.size):=(R.o.drewN _).turn aj.2 oo;clear aj;have r0:=R1.o.c0;have r1:=R1.o.c1;have r2:=R1.o.c2;have rf:=R1.o.f;have rl:=R1.o.lt;unfold bF;go_wp2_with fail;refine bodyPost_ret (v:=bF ((named s i).1)) (by simp[results,Tryz.results114,go_sem,bF,r0,r1,r2]) rfl ⟨?_,?_⟩
 .rw[HV.o]
 .rw[HV.o];exact((W1.o.cu hbw nl _ _).cu hbw nl _ _).cu hbw nl _ _
theorem Lr(s:BY)(b i:Nat)(w:WD)(h:Sc w b s i)(hi:i<s.size)(hbl:aO (pk s i)=false)(zX:dD (pk s i)=false)(hha:(pk s i==35)=false)(hnu:iO s i=false)(hs4:kG s i=false)(hs3:kL s i=false)(hat:(pk s i==64)=false)(hb0:iG s i=false)(HV:Hid (token s i=(Tok.w 15 (one s i),i+1))):
  Calls prog 114 #[.pointer (some ⟨b,0,none⟩)] w fun e w'=>e=.returned (bF (token s i).1)/\aB b s (token s i).2 w w':=by
 have W:=aB.nh h;have R:=gX.nh w;have hbw:b<w.heap.size:=h.lt;have hs:s.size<=600:=h.len;have _hi:=hi;clear h;have c00:=W.o.1.c0;have c10:=W.o.1.c1;have KY:=W.o.1.f1;have KZ:=W.o.1.lt;have cs0:=W.o.1.len;have La:=W.o.1.le;go_in;go_wp2_with fail;refine cZ (ak s b (i) _ (i) _ (W.o.1) ⟨oo,oo,oo⟩) fun nq=>?_;go_wp2_with fail;refine jA (aW _ _) ?_;go_wp2_with fail;refine jA (fH _ _) ?_;go_wp2_with fail;refine cZ (dn s b i _ (W.o.1.drewN _)) fun nq=>?_;go_wp2_with fail;refine cZ (jH s b i _ (W.o.1.drewN _)) fun nq=>?_;go_wp2_with fail;refine cZ (lF s b i _ (W.o.1.drewN _)) fun nq=>?_;go_wp2_with fail
 refine cZ (fP s b (i) _ (i) _ (W.o.1.drewN _) ⟨oo,oo,oo⟩) fun nq=>?_;go_wp2_with fail;refine pmb (Ap s b i _ (W.o.1.drewN _) hi) fun w1 aj=>?_;have W1:Hid (aB b s (i+1) w w1):=(W.o.drewN _).trans aj;have R1:Hid (gX w1 w.heap.size):=(R.o.drewN _).turn aj.2 oo;clear aj;have r0:=R1.o.c0;have r1:=R1.o.c1;have r2:=R1.o.c2;have rf:=R1.o.f;have rl:=R1.o.lt;go_wp2_with fail;refine bodyPost_ret (v:=bF (Tok.w 15 (one s i))) (by simp[results,Tryz.results114,go_sem,bF,Tok.w,r0,r1,r2];rfl) rfl ⟨?_,?_⟩
 .rw[HV.o]
 .rw[HV.o];exact((W1.o.cu hbw nl _ _).cu hbw nl _ _).cu hbw nl _ _
theorem IX(s:BY)(b i:Nat)(w:WD)(h:Sc w b s i)(hi:i<s.size)(hbl:aO (pk s i)=false)(zX:dD (pk s i)=false)(hha:(pk s i==35)=false)(hnu:iO s i=false)(hs4:kG s i=false)(hs3:kL s i=false)(hat:(pk s i==64)=true)(hb1:iG s (i+1)=false)(hb0:iG s i=true)(HV:Hid (token s i=named s i)):
  Calls prog 114 #[.pointer (some ⟨b,0,none⟩)] w fun e w'=>e=.returned (bF (token s i).1)/\aB b s (token s i).2 w w':=by
 have W:=aB.nh h;have R:=gX.nh w;have hbw:b<w.heap.size:=h.lt;have hs:s.size<=600:=h.len;have _hi:=hi;clear h;have c00:=W.o.1.c0;have c10:=W.o.1.c1;have KY:=W.o.1.f1;have KZ:=W.o.1.lt;have cs0:=W.o.1.len;have La:=W.o.1.le;go_in;go_wp2_with fail;refine cZ (ak s b (i) _ (i) _ (W.o.1) ⟨oo,oo,oo⟩) fun nq=>?_;go_wp2_with fail;refine jA (aW _ _) ?_;go_wp2_with fail;refine jA (fH _ _) ?_;go_wp2_with fail;refine cZ (dn s b i _ (W.o.1.drewN _)) fun nq=>?_;go_wp2_with fail;refine cZ (jH s b i _ (W.o.1.drewN _)) fun nq=>?_;go_wp2_with fail;refine cZ (lF s b i _ (W.o.1.drewN _)) fun nq=>?_;go_wp2_with fail
 refine cZ (fP s b (i) _ (i+1) _ (W.o.1.drewN _) ⟨oo,oo,oo⟩) fun nq=>?_;go_wp2_with fail;refine cZ (fP s b (i) _ (i) _ (W.o.1.drewN _) ⟨oo,oo,oo⟩) fun nq=>?_;go_wp2_with fail;refine pmb (OE s b i _ (W.o.1.drewN _)) fun w1 aj=>?_;have W1:Hid (aB b s (named s i).2 w w1):=(W.o.drewN _).trans aj;have R1:Hid (gX w1 w.heap.size):=(R.o.drewN _).turn aj.2 oo;clear aj;have r0:=R1.o.c0;have r1:=R1.o.c1;have r2:=R1.o.c2;have rf:=R1.o.f;have rl:=R1.o.lt;unfold bF;go_wp2_with fail;refine bodyPost_ret (v:=bF ((named s i).1)) (by simp[results,Tryz.results114,go_sem,bF,r0,r1,r2]) rfl ⟨?_,?_⟩
 .rw[HV.o]
 .rw[HV.o];exact((W1.o.cu hbw nl _ _).cu hbw nl _ _).cu hbw nl _ _
theorem Ls(s:BY)(b i:Nat)(w:WD)(h:Sc w b s i)(hi:i<s.size)(hbl:aO (pk s i)=false)(zX:dD (pk s i)=false)(hha:(pk s i==35)=false)(hnu:iO s i=false)(hs4:kG s i=false)(hs3:kL s i=false)(hat:(pk s i==64)=true)(hb1:iG s (i+1)=false)(hb0:iG s i=false)(HV:Hid (token s i=(Tok.w 15 (one s i),i+1))):
  Calls prog 114 #[.pointer (some ⟨b,0,none⟩)] w fun e w'=>e=.returned (bF (token s i).1)/\aB b s (token s i).2 w w':=by
 have W:=aB.nh h;have R:=gX.nh w;have hbw:b<w.heap.size:=h.lt;have hs:s.size<=600:=h.len;have _hi:=hi;clear h;have c00:=W.o.1.c0;have c10:=W.o.1.c1;have KY:=W.o.1.f1;have KZ:=W.o.1.lt;have cs0:=W.o.1.len;have La:=W.o.1.le;go_in;go_wp2_with fail;refine cZ (ak s b (i) _ (i) _ (W.o.1) ⟨oo,oo,oo⟩) fun nq=>?_;go_wp2_with fail;refine jA (aW _ _) ?_;go_wp2_with fail;refine jA (fH _ _) ?_;go_wp2_with fail;refine cZ (dn s b i _ (W.o.1.drewN _)) fun nq=>?_;go_wp2_with fail;refine cZ (jH s b i _ (W.o.1.drewN _)) fun nq=>?_;go_wp2_with fail;refine cZ (lF s b i _ (W.o.1.drewN _)) fun nq=>?_;go_wp2_with fail
 refine cZ (fP s b (i) _ (i+1) _ (W.o.1.drewN _) ⟨oo,oo,oo⟩) fun nq=>?_;go_wp2_with fail;refine cZ (fP s b (i) _ (i) _ (W.o.1.drewN _) ⟨oo,oo,oo⟩) fun nq=>?_;go_wp2_with fail;refine pmb (Ap s b i _ (W.o.1.drewN _) hi) fun w1 aj=>?_;have W1:Hid (aB b s (i+1) w w1):=(W.o.drewN _).trans aj;have R1:Hid (gX w1 w.heap.size):=(R.o.drewN _).turn aj.2 oo;clear aj;have r0:=R1.o.c0;have r1:=R1.o.c1;have r2:=R1.o.c2;have rf:=R1.o.f;have rl:=R1.o.lt;go_wp2_with fail;refine bodyPost_ret (v:=bF (Tok.w 15 (one s i))) (by simp[results,Tryz.results114,go_sem,bF,Tok.w,r0,r1,r2];rfl) rfl ⟨?_,?_⟩
 .rw[HV.o]
 .rw[HV.o];exact((W1.o.cu hbw nl _ _).cu hbw nl _ _).cu hbw nl _ _
theorem RH(s:BY)(b i:Nat)(w:WD)(h:Sc w b s i)(hi:i<s.size)(hbl:aO (pk s i)=false)(zX:dD (pk s i)=false)(hha:(pk s i==35)=true)(hgo:jT s (i+1)=false)(hnu:iO s i=true)(HV:Hid (token s i=Sp.numeric s i)):
  Calls prog 114 #[.pointer (some ⟨b,0,none⟩)] w fun e w'=>e=.returned (bF (token s i).1)/\aB b s (token s i).2 w w':=by
 have W:=aB.nh h;have R:=gX.nh w;have hbw:b<w.heap.size:=h.lt;have hs:s.size<=600:=h.len;have _hi:=hi;clear h;have c00:=W.o.1.c0;have c10:=W.o.1.c1;have KY:=W.o.1.f1;have KZ:=W.o.1.lt;have cs0:=W.o.1.len;have La:=W.o.1.le;go_in;go_wp2_with fail;refine cZ (ak s b (i) _ (i) _ (W.o.1) ⟨oo,oo,oo⟩) fun nq=>?_;go_wp2_with fail;refine jA (aW _ _) ?_;go_wp2_with fail;refine jA (fH _ _) ?_;go_wp2_with fail;refine cZ (kZ s b (i) _ (i+1) _ (W.o.1.drewN _) ⟨oo,oo,oo⟩) fun nq=>?_;go_wp2_with fail;refine cZ (dn s b i _ (W.o.1.drewN _)) fun nq=>?_;go_wp2_with fail;refine pmb (Nh s b i _ (W.o.1.drewN _)) fun w1 aj=>?_
 have W1:Hid (aB b s (Sp.numeric s i).2 w w1):=(W.o.drewN _).trans aj;have R1:Hid (gX w1 w.heap.size):=(R.o.drewN _).turn aj.2 oo;clear aj;have r0:=R1.o.c0;have r1:=R1.o.c1;have r2:=R1.o.c2;have rf:=R1.o.f;have rl:=R1.o.lt;unfold bF;go_wp2_with fail;refine bodyPost_ret (v:=bF ((Sp.numeric s i).1)) (by simp[results,Tryz.results114,go_sem,bF,r0,r1,r2]) rfl ⟨?_,?_⟩
 .rw[HV.o]
 .rw[HV.o];exact((W1.o.cu hbw nl _ _).cu hbw nl _ _).cu hbw nl _ _
theorem OH(s:BY)(b i:Nat)(w:WD)(h:Sc w b s i)(hi:i<s.size)(hbl:aO (pk s i)=false)(zX:dD (pk s i)=false)(hha:(pk s i==35)=true)(hgo:jT s (i+1)=false)(hnu:iO s i=false)(hs4:kG s i=true)(hl:i+4<=s.size)(HV:Hid (token s i=(Tok.k 8,i+4))):
  Calls prog 114 #[.pointer (some ⟨b,0,none⟩)] w fun e w'=>e=.returned (bF (token s i).1)/\aB b s (token s i).2 w w':=by
 have W:=aB.nh h;have R:=gX.nh w;have hbw:b<w.heap.size:=h.lt;have hs:s.size<=600:=h.len;have _hi:=hi;clear h;have c00:=W.o.1.c0;have c10:=W.o.1.c1;have KY:=W.o.1.f1;have KZ:=W.o.1.lt;have cs0:=W.o.1.len;have La:=W.o.1.le;go_in;go_wp2_with fail;refine cZ (ak s b (i) _ (i) _ (W.o.1) ⟨oo,oo,oo⟩) fun nq=>?_;go_wp2_with fail;refine jA (aW _ _) ?_;go_wp2_with fail;refine jA (fH _ _) ?_;go_wp2_with fail;refine cZ (kZ s b (i) _ (i+1) _ (W.o.1.drewN _) ⟨oo,oo,oo⟩) fun nq=>?_;go_wp2_with fail;refine cZ (dn s b i _ (W.o.1.drewN _)) fun nq=>?_;go_wp2_with fail;refine cZ (jH s b i _ (W.o.1.drewN _)) fun nq=>?_;have r0:=R.o.c0;have r1:=R.o.c1;have r2:=R.o.c2
 have rf:=R.o.f;have rl:=R.o.lt;go_wp2_with fail;refine bodyPost_ret (v:=bF (Tok.k 8)) (by simp[results,Tryz.results114,go_sem,bF,Tok.k,r0,r1,r2];rfl) rfl ⟨?_,?_⟩
 .rw[HV.o]
 .rw[HV.o];exact((((W.o.drewN _).iP _ (i+4) oo oo).cu hbw nl _ _).cu hbw nl _ _).cu hbw nl _ _
theorem Lu(s:BY)(b i:Nat)(w:WD)(h:Sc w b s i)(hi:i<s.size)(hbl:aO (pk s i)=false)(zX:dD (pk s i)=false)(hha:(pk s i==35)=true)(hgo:jT s (i+1)=false)(hnu:iO s i=false)(hs4:kG s i=false)(hs3:kL s i=true)(hl:i+3<=s.size)(HV:Hid (token s i=(Tok.k 9,i+3))):
  Calls prog 114 #[.pointer (some ⟨b,0,none⟩)] w fun e w'=>e=.returned (bF (token s i).1)/\aB b s (token s i).2 w w':=by
 have W:=aB.nh h;have R:=gX.nh w;have hbw:b<w.heap.size:=h.lt;have hs:s.size<=600:=h.len;have _hi:=hi;clear h;have c00:=W.o.1.c0;have c10:=W.o.1.c1;have KY:=W.o.1.f1;have KZ:=W.o.1.lt;have cs0:=W.o.1.len;have La:=W.o.1.le;go_in;go_wp2_with fail;refine cZ (ak s b (i) _ (i) _ (W.o.1) ⟨oo,oo,oo⟩) fun nq=>?_;go_wp2_with fail;refine jA (aW _ _) ?_;go_wp2_with fail;refine jA (fH _ _) ?_;go_wp2_with fail;refine cZ (kZ s b (i) _ (i+1) _ (W.o.1.drewN _) ⟨oo,oo,oo⟩) fun nq=>?_;go_wp2_with fail;refine cZ (dn s b i _ (W.o.1.drewN _)) fun nq=>?_;go_wp2_with fail;refine cZ (jH s b i _ (W.o.1.drewN _)) fun nq=>?_;go_wp2_with fail
 refine cZ (lF s b i _ (W.o.1.drewN _)) fun nq=>?_;have r0:=R.o.c0;have r1:=R.o.c1;have r2:=R.o.c2;have rf:=R.o.f;have rl:=R.o.lt;go_wp2_with fail;refine bodyPost_ret (v:=bF (Tok.k 9)) (by simp[results,Tryz.results114,go_sem,bF,Tok.k,r0,r1,r2];rfl) rfl ⟨?_,?_⟩
 .rw[HV.o]
 .rw[HV.o];exact((((W.o.drewN _).iP _ (i+3) oo oo).cu hbw nl _ _).cu hbw nl _ _).cu hbw nl _ _
theorem IY(s:BY)(b i:Nat)(w:WD)(h:Sc w b s i)(hi:i<s.size)(hbl:aO (pk s i)=false)(zX:dD (pk s i)=false)(hha:(pk s i==35)=true)(hgo:jT s (i+1)=false)(hnu:iO s i=false)(hs4:kG s i=false)(hs3:kL s i=false)(hat:(pk s i==64)=false)(hb0:iG s i=true)(HV:Hid (token s i=named s i)):
  Calls prog 114 #[.pointer (some ⟨b,0,none⟩)] w fun e w'=>e=.returned (bF (token s i).1)/\aB b s (token s i).2 w w':=by
 have W:=aB.nh h;have R:=gX.nh w;have hbw:b<w.heap.size:=h.lt;have hs:s.size<=600:=h.len;have _hi:=hi;clear h;have c00:=W.o.1.c0;have c10:=W.o.1.c1;have KY:=W.o.1.f1;have KZ:=W.o.1.lt;have cs0:=W.o.1.len;have La:=W.o.1.le;go_in;go_wp2_with fail;refine cZ (ak s b (i) _ (i) _ (W.o.1) ⟨oo,oo,oo⟩) fun nq=>?_;go_wp2_with fail;refine jA (aW _ _) ?_;go_wp2_with fail;refine jA (fH _ _) ?_;go_wp2_with fail;refine cZ (kZ s b (i) _ (i+1) _ (W.o.1.drewN _) ⟨oo,oo,oo⟩) fun nq=>?_;go_wp2_with fail;refine cZ (dn s b i _ (W.o.1.drewN _)) fun nq=>?_;go_wp2_with fail;refine cZ (jH s b i _ (W.o.1.drewN _)) fun nq=>?_;go_wp2_with fail
 refine cZ (lF s b i _ (W.o.1.drewN _)) fun nq=>?_;go_wp2_with fail;refine cZ (fP s b (i) _ (i) _ (W.o.1.drewN _) ⟨oo,oo,oo⟩) fun nq=>?_;go_wp2_with fail;refine pmb (OE s b i _ (W.o.1.drewN _)) fun w1 aj=>?_;have W1:Hid (aB b s (named s i).2 w w1):=(W.o.drewN _).trans aj;have R1:Hid (gX w1 w.heap.size):=(R.o.drewN _).turn aj.2 oo;clear aj;have r0:=R1.o.c0;have r1:=R1.o.c1;have r2:=R1.o.c2;have rf:=R1.o.f;have rl:=R1.o.lt;unfold bF;go_wp2_with fail;refine bodyPost_ret (v:=bF ((named s i).1)) (by simp[results,Tryz.results114,go_sem,bF,r0,r1,r2]) rfl ⟨?_,?_⟩
 .rw[HV.o]
 .rw[HV.o];exact((W1.o.cu hbw nl _ _).cu hbw nl _ _).cu hbw nl _ _
theorem LC(s:BY)(b i:Nat)(w:WD)(h:Sc w b s i)(hi:i<s.size)(hbl:aO (pk s i)=false)(zX:dD (pk s i)=false)(hha:(pk s i==35)=true)(hgo:jT s (i+1)=false)(hnu:iO s i=false)(hs4:kG s i=false)(hs3:kL s i=false)(hat:(pk s i==64)=false)(hb0:iG s i=false)(HV:Hid (token s i=(Tok.w 15 (one s i),i+1))):
  Calls prog 114 #[.pointer (some ⟨b,0,none⟩)] w fun e w'=>e=.returned (bF (token s i).1)/\aB b s (token s i).2 w w':=by
 have W:=aB.nh h;have R:=gX.nh w;have hbw:b<w.heap.size:=h.lt;have hs:s.size<=600:=h.len;have _hi:=hi;clear h;have c00:=W.o.1.c0;have c10:=W.o.1.c1;have KY:=W.o.1.f1;have KZ:=W.o.1.lt;have cs0:=W.o.1.len;have La:=W.o.1.le;go_in;go_wp2_with fail;refine cZ (ak s b (i) _ (i) _ (W.o.1) ⟨oo,oo,oo⟩) fun nq=>?_;go_wp2_with fail;refine jA (aW _ _) ?_;go_wp2_with fail;refine jA (fH _ _) ?_;go_wp2_with fail;refine cZ (kZ s b (i) _ (i+1) _ (W.o.1.drewN _) ⟨oo,oo,oo⟩) fun nq=>?_;go_wp2_with fail;refine cZ (dn s b i _ (W.o.1.drewN _)) fun nq=>?_;go_wp2_with fail;refine cZ (jH s b i _ (W.o.1.drewN _)) fun nq=>?_;go_wp2_with fail
 refine cZ (lF s b i _ (W.o.1.drewN _)) fun nq=>?_;go_wp2_with fail;refine cZ (fP s b (i) _ (i) _ (W.o.1.drewN _) ⟨oo,oo,oo⟩) fun nq=>?_;go_wp2_with fail;refine pmb (Ap s b i _ (W.o.1.drewN _) hi) fun w1 aj=>?_;have W1:Hid (aB b s (i+1) w w1):=(W.o.drewN _).trans aj;have R1:Hid (gX w1 w.heap.size):=(R.o.drewN _).turn aj.2 oo;clear aj;have r0:=R1.o.c0;have r1:=R1.o.c1;have r2:=R1.o.c2;have rf:=R1.o.f;have rl:=R1.o.lt;go_wp2_with fail;refine bodyPost_ret (v:=bF (Tok.w 15 (one s i))) (by simp[results,Tryz.results114,go_sem,bF,Tok.w,r0,r1,r2];rfl) rfl ⟨?_,?_⟩
 .rw[HV.o]
 .rw[HV.o];exact((W1.o.cu hbw nl _ _).cu hbw nl _ _).cu hbw nl _ _
theorem agm(s:BY)(b i:Nat)(w:WD)(h:Sc w b s i)(hi:i<s.size):
  Calls prog 114 #[.pointer (some ⟨b,0,none⟩)] w fun e w'=>e=.returned (bF (token s i).1)/\aB b s (token s i).2 w w':=by
 have T:token s i=token s i:=rfl;conv at T=>rhs;unfold token
 cases hbl:aO (pk s i)
 .rw[hbl]at T;cases zX:dD (pk s i)
  .rw[zX]at T;have key:∀(_:pk s i=35->jT s (i+1)=false),Calls prog 114 #[.pointer (some ⟨b,0,none⟩)] w fun e w'=>e=.returned (bF (token s i).1)/\aB b s (token s i).2 w w':=by
    intro hno;rw[if_neg (by simp),if_neg (by simp),if_neg (fun h=>by simp[hno h.1]at h)]at T;cases hnu:iO s i
    .rw[hnu,if_neg (by simp)]at T;cases hs4:kG s i
     .rw[hs4,if_neg (by simp)]at T;cases hs3:kL s i
      .rw[hs3,if_neg (by simp)]at T;by_cases hat:pk s i=64
       .have hha:(pk s i==35)=false:=by rw[hat];rfl
        have hat':(pk s i==64)=true:=by rw[hat];rfl
        cases hb1:iG s (i+1)
        .rw[if_neg (by simp[hb1])]at T;cases hb0:iG s i
         .rw[hb0,if_neg (by simp)]at T;exact Ls s b i w h hi hbl zX hha hnu hs4 hs3 hat' hb1 hb0 T
         .rw[hb0,if_pos rfl]at T;exact IX s b i w h hi hbl zX hha hnu hs4 hs3 hat' hb1 hb0 T
        .rw[if_pos ⟨hat,hb1⟩]at T;exact Wh s b i w h hi hbl zX hha hnu hs4 hs3 hat' hb1 T
       .have hat':(pk s i==64)=false:=by simpa using hat
        rw[if_neg (fun h=>hat h.1)]at T;cases hb0:iG s i
        .rw[hb0,if_neg (by simp)]at T;cases hha:(pk s i==35)
         .exact Lr s b i w h hi hbl zX hha hnu hs4 hs3 hat' hb0 T
         .exact LC s b i w h hi hbl zX hha (hno (by simpa using hha)) hnu hs4 hs3 hat' hb0 T
        .rw[hb0,if_pos rfl]at T;cases hha:(pk s i==35)
         .exact IW s b i w h hi hbl zX hha hnu hs4 hs3 hat' hb0 T
         .exact IY s b i w h hi hbl zX hha (hno (by simpa using hha)) hnu hs4 hs3 hat' hb0 T
      .have hl:i+3<=s.size:=by
        have h3:=hs3;simp[kL]at h3;have:=dY (s:=s) (i:=i+2) oo;omega
       rw[hs3,if_pos rfl]at T;cases hha:(pk s i==35)
       .exact Lp s b i w h hi hbl zX hha hnu hs4 hs3 hl T
       .exact Lu s b i w h hi hbl zX hha (hno (by simpa using hha)) hnu hs4 hs3 hl T
     .have hl:i+4<=s.size:=by
       have h4:=hs4;simp[kG]at h4;have:=dY (s:=s) (i:=i+3) oo;omega
      rw[hs4,if_pos rfl]at T;cases hha:(pk s i==35)
      .exact OG s b i w h hi hbl zX hha hnu hs4 hl T
      .exact OH s b i w h hi hbl zX hha (hno (by simpa using hha)) hnu hs4 hl T
    .rw[hnu,if_pos rfl]at T;cases hha:(pk s i==35)
     .exact RG s b i w h hi hbl zX hha hnu T
     .exact RH s b i w h hi hbl zX hha (hno (by simpa using hha)) hnu T
   by_cases hha:pk s i=35
   .cases hgo:jT s (i+1)
    .exact key (fun _=>hgo)
    .rw[if_neg (by simp),if_neg (by simp),if_pos ⟨hha,hgo⟩]at T;exact V9 s b i w h hi hbl zX (by rw[hha];rfl) hgo T
   .exact key (fun h=>absurd h hha)
  .rw[zX,if_neg (by simp),if_pos rfl]at T;exact V8 s b i w h hi hbl zX T
 .rw[hbl,if_pos rfl]at T;exact RF s b i w h hi hbl T
def Vg(l:List UInt8):List Av:=l.map fun b=>Value.int .u8 (b.toNat:Int)
theorem rG(a b:List UInt8):Vg (a++b)=Vg a++Vg b:=by simp[Vg]
theorem rH(n:Int):∀u∈[Value.int .u8 n],u.oneCell'=true:=by simp[Value.oneCell']
theorem agn(s:BY)(i:Nat):(ZO s i).length<=1:=by
 unfold ZO;split
 .split
  .simp
  .split
   .simp
   .split<;>simp
 .simp
theorem xZ(s:BY):∀k,(bC s k).length<=k
 |0=>by simp[bC]
 |k+1=>by have:=xZ s k;have:=agn s k;simp[bC];omega
theorem oZ(s:BY):(clean s).size<=s.size:=by have:=xZ s s.size;show(bC s s.size).toArray.size<=s.size;simpa using this
theorem byte_at{s:BY}{k:Nat}(h:k<s.size)(n:Nat)(hn:n<256):s[k]=UInt8.ofNat n↔pk s k=(n:Int):=by
 rw[zK h];constructor
 .intro e;rw[e];simp;omega
 .intro e;apply UInt8.toNat_inj.1
  simp;omega
theorem b13{s:BY}{k:Nat}(h:k<s.size):s[k]=13↔pk s k=13:=byte_at h 13 oo
theorem b12{s:BY}{k:Nat}(h:k<s.size):s[k]=12↔pk s k=12:=byte_at h 12 oo
theorem b00{s:BY}{k:Nat}(h:k<s.size):s[k]=0↔pk s k=0:=byte_at h 0 oo
theorem OI{s:BY}{k:Nat}(h:k<s.size):ZO s k=if pk s k=13/\pk s (k+1)=10 then [] else if pk s k=13\/pk s k=12 then [10] else if pk s k=0 then [63] else [s[k]]:=by unfold ZO;rw[dif_pos h];simp only[b13 h,b12 h,b00 h]
theorem acS{s:BY}{k:Nat}(h:k<s.size)(h1:pk s k=13)(h2:pk s (k+1)=10):ZO s k=[]:=by rw[OI h,if_pos ⟨h1,h2⟩]
theorem IZ{s:BY}{k:Nat}(h:k<s.size)(h1:pk s k=13\/pk s k=12)(h2:¬(pk s k=13/\pk s (k+1)=10)):ZO s k=[10]:=by rw[OI h,if_neg h2,if_pos h1]
theorem agp{s:BY}{k:Nat}(h:k<s.size)(h1:pk s k=0):ZO s k=[63]:=by rw[OI h,if_neg oo,if_neg oo,if_pos h1]
theorem acT{s:BY}{k:Nat}(h:k<s.size)(h1:pk s k≠13)(h2:pk s k≠12)(h3:pk s k≠0):ZO s k=[s[k]]:=by rw[OI h,if_neg oo,if_neg oo,if_neg h3]
theorem agq(s:BY)(w:WD)(hs:s.size<=600):
  Calls prog 111 #[.string s] w fun e w'=>e=.returned (.string (Sp.clean s))/\Below w.heap.size w w':=by
 obtain⟨iU,hiU,hzU,hsU,hbU⟩:=info_u8;have HI:Hid (prog.info? 5=some iU/\iU.zero=some (.int .u8 0)/\iU.size=1/\iU.bytes=1):=⟨hiU,hzU,hsU,hbU⟩;clear hiU hzU hsU hbU;go_in;go_wp2_with(at_make;refine wpList_make_own _ rfl _ _ 145 rfl w.heap.size 5 iU (.int .u8 0) 1 Tryz.underlying145 HI.o.1 HI.o.2.1 HI.o.2.2.1 _ _ _ s.size rfl rfl rfl ?_ ?_ ?_ ?_)
 .rw[HI.o.2.2.2];omega
 .unfold maxLen;omega
 .exact Nat.le_refl _
 intro w1 hown1 Qx;have HB1:Hid (Below w.heap.size w w1):=Ax.grown Qx nl (fun _ h=>by cases h);have uS:Hid (w1.ownsRow w.heap.size 5 1 (.slice (some ⟨w.heap.size,0,none⟩) 0 s.size) 0 []):=hown1;clear hown1 Qx;go_wp2_with fail;go_loopg[3,11] s.size (fun g v3 v11 wr=>∃(v:Av) (k:Nat),v=v3/\k+g=s.size/\v11=.int .i64 (k:Int)/\Aside (wr.ownsRow w.heap.size 5 1 v (bC s k).length (Vg (bC s k))/\Below w.heap.size w wr));case atStart=>exact⟨_,0,rfl,oo,rfl,uS.o,HB1.o⟩
 case round=>
  obtain⟨v3,k,rfl,hk,rfl,hA⟩:=hrel;have HO:Hid (wr.ownsRow w.heap.size 5 1 v3 (bC s k).length (Vg (bC s k))):=hA.o.1;have HB:=hid hA.o.2;clear hA;have hcl:=xZ s k;by_cases hlt:k<s.size
  .have hix:=gQ s k hlt;have hsz:=HB.o.size;have hnn:=tK hlt;have hhi:=Yj s k;have HT:Hid (bC s (k+1)=bC s k++ZO s k):=rfl;by_cases h13:pk s k=13
   .have e1:(pk s k==13)=true:=by rw[h13];rfl
    by_cases hnx:k+1<s.size
    .have amI:(k:Int)+1<(s.size:Int):=oo;have hix2:∀w:WD,(Instr.index 9 (.string s) (.int .i64 ((k:Int)+1))).run prog w=.ok (.int .u8 (pk s (k+1))) w:=fun w=>gQ s (k+1) hnx w;by_cases h10:pk s (k+1)=10
     .have e2:(pk s (k+1)==10)=true:=by rw[h10];rfl
      have HC:Hid (bC s (k+1)=bC s k):=by show _=_;rw[HT.o,acS hlt h13 h10,List.append_nil]
      clear h13 h10;go_wp2_with fail;go_roundg(gk-1);case measure=>omega
      case rel=>exact⟨v3,k+1,rfl,oo,by congr 1,by rw[HC.o];exact HO.o,HB.o⟩
     .have e2:(pk s (k+1)==10)=false:=by simpa using h10
      have HC:Hid (bC s (k+1)=bC s k++[10]):=by show _=_;rw[HT.o,IZ hlt (.inl h13) (fun h=>h10 h.2)]
      clear h13 h10;go_wp2_with(at_builtin;refine wpList_append_own _ rfl _ _ 145 rfl w.heap.size 5 iU (.int .u8 0) 1 1 Tryz.underlying145 HI.o.1 HI.o.2.1 HI.o.2.2.1 HI.o.2.2.2 rfl oo v3 (bC s k).length (Vg (bC s k)) rfl (HO.o.alloc _) ⟨wr.heap.size,0,none⟩ 1 1 [.int .u8 (10)] rfl rfl (cell_one_new _ _ _) (rH _) ?_ ?_ ?_ ?_)
      .unfold maxLen;omega
      .omega
      .first|omega|(simp;omega)
      intro v4 w2 hown2 jk _;have FW:Hid (w2.ownsRow w.heap.size 5 1 v4 ((bC s k).length+1) (Vg (bC s k)++[.int .u8 (10)])):=hown2;have HB2:Hid (Below w.heap.size w w2):=(HB.o.alloc hsz _).grown jk (by first|omega|(simp;omega)) (fun r hr=>(HO.o.lt r hr).1);clear hown2 jk;go_wp2_with fail;go_roundg(gk-1);case measure=>omega
      case rel=>refine⟨v4,k+1,rfl,oo,by congr 1,?_,HB2.o⟩;rw[HC.o,rG,List.length_append];exact FW.o
    .have amI:(s.size:Int)<=(k:Int)+1:=oo;have HC:Hid (bC s (k+1)=bC s k++[10]):=by show _=_;rw[HT.o,IZ hlt (.inl h13) (fun h=>by have:=dY (s:=s) (i:=k+1) oo;omega)]
     clear h13;go_wp2_with(at_builtin;refine wpList_append_own _ rfl _ _ 145 rfl w.heap.size 5 iU (.int .u8 0) 1 1 Tryz.underlying145 HI.o.1 HI.o.2.1 HI.o.2.2.1 HI.o.2.2.2 rfl oo v3 (bC s k).length (Vg (bC s k)) rfl (HO.o.alloc _) ⟨wr.heap.size,0,none⟩ 1 1 [.int .u8 (10)] rfl rfl (cell_one_new _ _ _) (rH _) ?_ ?_ ?_ ?_)
     .unfold maxLen;omega
     .omega
     .first|omega|(simp;omega)
     intro v4 w2 hown2 jk _;have FW:Hid (w2.ownsRow w.heap.size 5 1 v4 ((bC s k).length+1) (Vg (bC s k)++[.int .u8 (10)])):=hown2;have HB2:Hid (Below w.heap.size w w2):=(HB.o.alloc hsz _).grown jk (by first|omega|(simp;omega)) (fun r hr=>(HO.o.lt r hr).1);clear hown2 jk;go_wp2_with fail;go_roundg(gk-1);case measure=>omega
     case rel=>refine⟨v4,k+1,rfl,oo,by congr 1,?_,HB2.o⟩;rw[HC.o,rG,List.length_append];exact FW.o
   .have e1:(pk s k==13)=false:=by simpa using h13
    by_cases h12:pk s k=12
    .have e2:(pk s k==12)=true:=by rw[h12];rfl
     have HC:Hid (bC s (k+1)=bC s k++[10]):=by show _=_;rw[HT.o,IZ hlt (.inr h12) (fun h=>h13 h.1)]
     clear h13 h12;go_wp2_with(at_builtin;refine wpList_append_own _ rfl _ _ 145 rfl w.heap.size 5 iU (.int .u8 0) 1 1 Tryz.underlying145 HI.o.1 HI.o.2.1 HI.o.2.2.1 HI.o.2.2.2 rfl oo v3 (bC s k).length (Vg (bC s k)) rfl (HO.o.alloc _) ⟨wr.heap.size,0,none⟩ 1 1 [.int .u8 (10)] rfl rfl (cell_one_new _ _ _) (rH _) ?_ ?_ ?_ ?_)
     .unfold maxLen;omega
     .omega
     .first|omega|(simp;omega)
     intro v4 w2 hown2 jk _;have FW:Hid (w2.ownsRow w.heap.size 5 1 v4 ((bC s k).length+1) (Vg (bC s k)++[.int .u8 (10)])):=hown2;have HB2:Hid (Below w.heap.size w w2):=(HB.o.alloc hsz _).grown jk (by first|omega|(simp;omega)) (fun r hr=>(HO.o.lt r hr).1);clear hown2 jk;go_wp2_with fail;go_roundg(gk-1);case measure=>omega
     case rel=>refine⟨v4,k+1,rfl,oo,by congr 1,?_,HB2.o⟩;rw[HC.o,rG,List.length_append];exact FW.o
    .have e2:(pk s k==12)=false:=by simpa using h12
     by_cases h0:pk s k=0
     .have e3:(pk s k==0)=true:=by rw[h0];rfl
      have HC:Hid (bC s (k+1)=bC s k++[63]):=by show _=_;rw[HT.o,agp hlt h0]
      clear h13 h12 h0;go_wp2_with(at_builtin;refine wpList_append_own _ rfl _ _ 145 rfl w.heap.size 5 iU (.int .u8 0) 1 1 Tryz.underlying145 HI.o.1 HI.o.2.1 HI.o.2.2.1 HI.o.2.2.2 rfl oo v3 (bC s k).length (Vg (bC s k)) rfl (HO.o.alloc _) ⟨wr.heap.size,0,none⟩ 1 1 [.int .u8 (63)] rfl rfl (cell_one_new _ _ _) (rH _) ?_ ?_ ?_ ?_)
      .unfold maxLen;omega
      .omega
      .first|omega|(simp;omega)
      intro v4 w2 hown2 jk _;have FW:Hid (w2.ownsRow w.heap.size 5 1 v4 ((bC s k).length+1) (Vg (bC s k)++[.int .u8 (63)])):=hown2;have HB2:Hid (Below w.heap.size w w2):=(HB.o.alloc hsz _).grown jk (by first|omega|(simp;omega)) (fun r hr=>(HO.o.lt r hr).1);clear hown2 jk;go_wp2_with fail;go_roundg(gk-1);case measure=>omega
      case rel=>refine⟨v4,k+1,rfl,oo,by congr 1,?_,HB2.o⟩;rw[HC.o,rG,List.length_append];exact FW.o
     .have e3:(pk s k==0)=false:=by simpa using h0
      have HC:Hid (bC s (k+1)=bC s k++[s[k]]):=by show _=_;rw[HT.o,acT hlt h13 h12 h0]
      have HP:Hid (pk s k=(s[k].toNat:Int)):=zK hlt;clear h13 h12 h0;go_wp2_with(at_builtin;refine wpList_append_own _ rfl _ _ 145 rfl w.heap.size 5 iU (.int .u8 0) 1 1 Tryz.underlying145 HI.o.1 HI.o.2.1 HI.o.2.2.1 HI.o.2.2.2 rfl oo v3 (bC s k).length (Vg (bC s k)) rfl (HO.o.alloc _) ⟨wr.heap.size,0,none⟩ 1 1 [.int .u8 (pk s k)] rfl rfl (cell_one_new _ _ _) (rH _) ?_ ?_ ?_ ?_)
      .unfold maxLen;omega
      .omega
      .first|omega|(simp;omega)
      intro v4 w2 hown2 jk _;have FW:Hid (w2.ownsRow w.heap.size 5 1 v4 ((bC s k).length+1) (Vg (bC s k)++[.int .u8 (pk s k)])):=hown2;have HB2:Hid (Below w.heap.size w w2):=(HB.o.alloc hsz _).grown jk (by first|omega|(simp;omega)) (fun r hr=>(HO.o.lt r hr).1);clear hown2 jk;go_wp2_with fail;go_roundg(gk-1);case measure=>omega
      case rel=>refine⟨v4,k+1,rfl,oo,by congr 1,?_,HB2.o⟩;rw[HC.o,rG,List.length_append];have h2:=FW.o;rw[HP.o]at h2;exact h2
  .have hcv:(convert 145 9 v3).run prog wr=.ok (.string (Sp.clean s)) wr:=by
    have e:k=s.size:=oo;have h1:=HO.o;rw[e]at h1;exact conv_own (P:=prog) wr 145 9 5 Tryz.underlying145 Tryz.underlying5 Tryz.underlying9 (bC s s.size) h1
   go_wp2_with fail;go_ret;exact⟨rfl,HB.o⟩
end Go.Proofs.YtlliliddljkbfaaGreat
namespace Go.Proofs.YtlliliddljkbfaaGreat
open Go Go.Conc Go.RowKit
def YJ(P:Program)(c:Code)(Q:Exit->Act->World->Prop)(a:Act)(w:World):Prop:=∀(b:Frame) (k:List Item) (cs:List Frame),b.kind≠.early->∃e a' w',Q e a' w'/\Arrives P (lone (b.at a (.code c::k)) cs w) b k cs e a' w'
section
variable {P:Program} {Q:Exit->Act->World->Prop} {a:Act} {w:World}
theorem jI{c:Code}(h:c.wp P Q a w):YJ P c Q a w:=fun b k cs _=>h b k cs
theorem nN{x y:Code}(h:YJ P x (Exit.then (YJ P y Q) Q) a w):YJ P (.seq x y) Q a w:=by
 intro b k cs hb;obtain⟨e,a1,w1,hq,harr⟩:=h b (.code y::k) cs hb;have s0:Steps P (lone (b.at a (.code (.seq x y)::k)) cs w) (lone (b.at a (.code x :: .code y::k)) cs w):=.one step_seq;cases e with
 |normal=>obtain⟨e2,a2,w2,hq2,C9⟩:=hq b k cs hb;exact⟨e2,a2,w2,hq2,.of_steps (s0.trans harr) C9⟩
 |exit id=>exact⟨_,a1,w1,hq,.of_steps s0 (.pass (x:=.code y) rfl (fun _ _=>.inl (by simp)) harr)⟩
 |goto l=>exact⟨_,a1,w1,hq,.of_steps s0 (.pass (x:=.code y) rfl (fun _ _=>.inl (by simp)) harr)⟩
 |ret=>exact⟨_,a1,w1,hq,.of_steps s0 (.pass (x:=.code y) rfl (fun _ _=>.inl (by simp)) harr)⟩
 |panic ch=>exact⟨_,a1,w1,hq,.of_steps s0 (.pass (x:=.code y) rfl (fun _ _=>.inl (by simp)) harr)⟩
 |outgrown=>exact⟨_,a1,w1,hq,.of_steps s0 (.pass (x:=.code y) rfl (fun _ _=>.inl (by simp)) harr)⟩
theorem Et{id:Nat}{c:Code}(h:YJ P c (Exit.inBlock id Q) a w):YJ P (.block id c) Q a w:=by
 intro b k cs hb;obtain⟨e,a1,w1,hq,harr⟩:=h b (.inBlock id::k) cs hb;have s0:Steps P (lone (b.at a (.code (.block id c)::k)) cs w) (lone (b.at a (.code c :: .inBlock id::k)) cs w):=.one step_block;cases e with
 |normal=>exact⟨.normal,a1,w1,hq,(s0.trans harr).trans (.one step_inBlock)⟩
 |exit j=>
  by_cases hj:j=id
  .subst hj;have hq':Q .normal a1 w1:=by simpa[Exit.inBlock]using hq
   exact⟨.normal,a1,w1,hq',s0.trans (harr k (by simp[exitTo]))⟩
  .have hq':Q (.exit j) a1 w1:=by simpa[Exit.inBlock,hj]using hq
   refine⟨.exit j,a1,w1,hq',fun k' hk=>s0.trans (harr k' ?_)⟩;have hj':¬id=j:=fun e=>hj e.symm;simp[exitTo,hj',hk]
 |goto l=>exact⟨.goto l,a1,w1,hq,fun k' hk=>s0.trans (harr k' (by simpa[gotoIn]using hk))⟩
 |ret=>exact⟨.ret,a1,w1,hq,.of_steps s0 harr⟩
 |panic ch=>exact⟨.panic ch,a1,w1,hq,.of_steps s0 harr⟩
 |outgrown=>exact⟨.outgrown,a1,w1,hq,.of_steps (b:=b) (k:=k) (cs:=cs) (e:=.outgrown) s0 harr⟩
theorem RI{c:Code}(I:Nat->Act->World->Prop)(n:Nat)(h0:I n a w)
  (round:∀n a w,I n a w->YJ P c (Exit.then (fun a' w'=>∃n',n'<n/\I n' a' w') Q) a w):YJ P (.loop c) Q a w:=by
 intro b k cs hb;have key:∀n a w,I n a w->∃e a' w',Q e a' w'/\Arrives P (lone (b.at a (.code c :: .inLoop c::k)) cs w) b k cs e a' w':=by
  intro n;induction n using Nat.strongRecOn with
  |_ n ih=>
   intro a w hI;obtain⟨e,a1,w1,hq,harr⟩:=round n a w hI b (.inLoop c::k) cs hb;cases e with
   |normal=>obtain⟨n',hlt,hI'⟩:=hq;obtain⟨e2,a2,w2,hq2,C9⟩:=ih n' hlt a1 w1 hI';exact⟨e2,a2,w2,hq2,.of_steps (Steps.trans harr (.one step_inLoop)) C9⟩
   |exit id=>exact⟨_,a1,w1,hq,.pass (x:=.inLoop c) rfl (fun _ _=>.inl (by simp)) harr⟩
   |goto l=>exact⟨_,a1,w1,hq,.pass (x:=.inLoop c) rfl (fun _ _=>.inl (by simp)) harr⟩
   |ret=>exact⟨_,a1,w1,hq,.pass (x:=.inLoop c) rfl (fun _ _=>.inl (by simp)) harr⟩
   |panic ch=>exact⟨_,a1,w1,hq,.pass (x:=.inLoop c) rfl (fun _ _=>.inl (by simp)) harr⟩
   |outgrown=>exact⟨_,a1,w1,hq,.pass (x:=.inLoop c) rfl (fun _ _=>.inl (by simp)) harr⟩
 obtain⟨e,a',w',hq,harr⟩:=key n a w h0;exact⟨e,a',w',hq,.of_steps (.one step_loop) harr⟩
theorem LD{c:Code}(h:∀Q':Exit->Act->World->Prop,Fwd P c Q Q'->YJ P c Q' a w):YJ P (.scope c) Q a w:=by
 have h':=h (akK P c Q) ⟨fun l rest a w hf hr=>⟨rest,hf,hr⟩,fun a w hq=>hq,fun a w hq=>hq,fun e a w hq=>by cases e<;>first|exact hq|exact hq.elim⟩;intro b k cs hb;obtain⟨e,a1,w1,hq,harr⟩:=h' b (.inScope c::k) cs hb;cases e with
 |normal=>exact⟨.normal,a1,w1,hq,.head step_scope (Steps.trans harr (.one step_inScope))⟩
 |exit id=>exact⟨.exit id,a1,w1,hq,fun k' hk=>.head step_scope (harr k' (by simp[exitTo,hk]))⟩
 |goto l=>
  obtain⟨rest,hf,hr⟩:=hq;have hg:gotoIn l (.inScope c::k)=some (.code rest :: .inScope c::k):=by simp[gotoIn,hf]
  obtain⟨e2,a2,w2,hq2,C9⟩:=hr b (.inScope c::k) cs;have hs:=Steps.head (P:=P) step_scope (harr _ hg);cases e2 with
  |normal=>exact⟨.normal,a2,w2,hq2,Steps.trans hs (Steps.trans C9 (.one step_inScope))⟩
  |exit id=>exact⟨.exit id,a2,w2,hq2,fun k' hk=>Steps.trans hs (C9 k' (by simp[exitTo,hk]))⟩
  |goto l'=>exact hq2.elim
  |ret=>exact⟨_,a2,w2,hq2,.of_steps hs C9⟩
  |panic ch=>exact⟨_,a2,w2,hq2,.of_steps hs C9⟩
  |outgrown=>exact⟨_,a2,w2,hq2,.of_steps hs C9⟩
 |ret=>exact⟨_,a1,w1,hq,.of_steps (.one step_scope) harr⟩
 |panic ch=>exact⟨_,a1,w1,hq,.of_steps (.one step_scope) harr⟩
 |outgrown=>exact⟨_,a1,w1,hq,.of_steps (.one step_scope) harr⟩
theorem Dc{f:FuncId}{fn:Func}{c:Code}{args:Array Value}{R:Ending->World->Prop}
  (hf:P.funcs[f]?=some fn) (hb:fn.body=some c)
  (h:YJ P c (bodyPost P fn R) { tmps:=args++Array.replicate (fn.ntmps-args.size) undef,defers:=[] } w):Calls P f args w R:=by
 intro cs;let b:Frame:={ (default:Frame)with fn:=f,kind:=.normal }
 have henter:Frame.enter P f args .normal=b.at { tmps:=args++Array.replicate (fn.ntmps-args.size) undef,defers:=[] } [.code c]:=by simp[Frame.enter,Frame.at,hf,hb,b]
 obtain⟨e,a',w',hq,harr⟩:=h b [] cs (by simp[b]);rw[<-henter]at harr;cases e with
 |normal=>obtain⟨hd,v,hr,hR⟩:=hq;exact⟨.returned v,w',_,hR,Steps.trans harr (.one step_end),rfl,rfl,hd,rfl,fn,hf,hr⟩
 |ret=>obtain⟨hd,v,hr,hR⟩:=hq;obtain⟨todo,hs⟩:=harr;exact⟨.returned v,w',_,hR,hs,rfl,rfl,hd,rfl,fn,hf,hr⟩
 |panic chain=>obtain⟨hd,hR⟩:=hq;obtain⟨todo,hs⟩:=harr;exact⟨.panicked chain,w',_,hR,hs,rfl,rfl,hd,fn,hf⟩
 |exit id=>exact hq.elim
 |goto l=>exact hq.elim
 |outgrown=>exact⟨.outgrown,w',b,hq,harr.resolve_left (by simp[b]),rfl,trivial⟩
def Left(P:Program)(ops:Array Oper)(Q:Exit->Act->World->Prop)(l:List Nat)(a:Act)(w:World):Prop:=∀(b:Frame) (k:List Item) (cs:List Frame),b.kind≠.early->∃e a' w',Q e a' w'/\Arrives P (lone (b.at a (.inRegion ops l::k)) cs w) b k cs e a' w'
variable {ops:Array Oper} {i:Nat} {rest:List Nat} {o:Oper}
theorem I9{id:Nat}(h:Left P ops Q (List.range ops.size) a w):YJ P (.region id ops false) Q a w:=by intro b k cs hb;obtain⟨e,a1,w1,hq,harr⟩:=h b k cs hb;exact⟨e,a1,w1,hq,.of_steps (.one step_region) harr⟩
theorem left_nil(h:Q .normal a w):Left P ops Q [] a w:=fun _ _ _ _=>⟨.normal,a,w,h,.one step_region_end⟩
theorem AQ{v:Value}{w':World}(ho:ops[i]?=some o)(hw:Region.wanted o (yielded ops a.tmps)=true)(hr:(execOp a.eval o).run P w=.ok (.value v) w')
  (h:Left P ops Q rest (a.put o.dst v) w'):Left P ops Q (i::rest) a w:=by
 intro b k cs hb;obtain⟨e,a1,w1,hq,harr⟩:=h b k cs hb;have hg:=stepG_op (P:=P) (b:=b) (k:=k) (cs:=cs) (w:=w) (rest:=rest) ho hw;have hfin:(b.at a (.inRegion ops (i::rest)::k)).finish v=b.at (a.put o.dst v) (.inRegion ops rest::k):=by rw[Frame.finish_at,ho];rfl
 refine⟨e,a1,w1,hq,.of_steps (.one (step_lone_go ?_)) harr⟩;rw[hg,<-hfin];simp[stepG.apply,hr]
theorem aav{f:FuncId}{args:Array Value}{w':World}{S:Value->World->Prop}(ho:ops[i]?=some o)(hw:Region.wanted o (yielded ops a.tmps)=true)(hr:(execOp a.eval o).run P w=.ok (.enter f args) w')
  (hc:Calls P f args w' fun e w2=>∃v,e=.returned v/\S v w2)
  (h:∀v w2,S v w2->Left P ops Q rest (a.put o.dst v) w2):Left P ops Q (i::rest) a w:=by
 intro b k cs hb;obtain⟨e,w2,fr,⟨v,rfl,hS⟩,hsteps,_,hleave⟩:=hc (b.at a (.inRegion ops (i::rest)::k)::cs);obtain⟨e,a1,w1,hq,harr⟩:=h v w2 hS b k cs hb;have hg:=stepG_op (P:=P) (b:=b) (k:=k) (cs:=cs) (w:=w) (rest:=rest) ho hw;have hfin:(b.at a (.inRegion ops (i::rest)::k)).finish v=b.at (a.put o.dst v) (.inRegion ops rest::k):=by rw[Frame.finish_at,ho];rfl
 have henter:step P (lone (b.at a (.inRegion ops (i::rest)::k)) cs w)=.next (lone (Frame.enter P f args .normal) (b.at a (.inRegion ops (i::rest)::k)::cs) w'):=step_lone_go (by rw[hg];simp[stepG.apply,hr,Frame.at])
 refine⟨e,a1,w1,hq,.of_steps (.head henter (Steps.trans hsteps (.one ?_))) harr⟩;rw[<-hfin];exact step_leave_returned hleave
theorem aaw{c cap s r:Nat}{buf:Array Value}{v z':Value}{tm:Bool}{w1:World}(ho:ops[i]?=some o)(hw:Region.wanted o (yielded ops a.tmps)=true)
  (hr:(execOp a.eval o).run P w=.ok (.comm #[scase c v z'] true .send) w1) (hc:w1.heap[c]?=some (.chan cap buf false s r tm)) (hroom:buf.size<cap)
  (h:Left P ops Q rest (a.put o.dst undef) (w1.setChan c cap (buf.push v) false (s+1) r tm)):Left P ops Q (i::rest) a w:=by
 intro b k cs hb;obtain⟨e,a1,w2,hq,harr⟩:=h b k cs hb;have hfin:(b.at a (.inRegion ops (i::rest)::k)).finish undef=b.at (a.put o.dst undef) (.inRegion ops rest::k):=by rw[Frame.finish_at,ho];rfl
 have hst:=step_lone_send_room (P:=P) (cs:=cs) (stepG_comm (main:=true) (cs:=cs) (k:=k) (rest:=rest) ho hw hb hr) hc hroom;rw[hfin]at hst;exact⟨e,a1,w2,hq,.of_steps (.one hst) harr⟩
theorem aax{c cap s r:Nat}{buf:Array Value}{z:Value}{tm closed:Bool}{w1:World}(ho:ops[i]?=some o)(hw:Region.wanted o (yielded ops a.tmps)=true)
  (hr:(execOp a.eval o).run P w=.ok (.comm #[rcase c z] true (.recv true)) w1) (hc:w1.heap[c]?=some (.chan cap buf closed s r tm)) (hsome:0<buf.size)
  (h:Left P ops Q rest (a.put o.dst (.tuple #[buf.getD 0 undef,.bool true])) (w1.setChan c cap (buf.extract 1 buf.size) closed s (r+1) tm)):Left P ops Q (i::rest) a w:=by
 intro b k cs hb;obtain⟨e,a1,w2,hq,harr⟩:=h b k cs hb;have hfin:(b.at a (.inRegion ops (i::rest)::k)).finish (got true (buf.getD 0 undef) true)=b.at (a.put o.dst (.tuple #[buf.getD 0 undef,.bool true])) (.inRegion ops rest::k):=by rw[Frame.finish_at,ho];rfl
 have hst:=step_lone_recv_buf (P:=P) (cs:=cs) true (stepG_comm (main:=true) (cs:=cs) (k:=k) (rest:=rest) ho hw hb hr) hc hsome;rw[hfin]at hst;exact⟨e,a1,w2,hq,.of_steps (.one hst) harr⟩
theorem Ja{c cap s r:Nat}{z:Value}{tm:Bool}{w1:World}(ho:ops[i]?=some o)(hw:Region.wanted o (yielded ops a.tmps)=true)
  (hr:(execOp a.eval o).run P w=.ok (.comm #[rcase c z] true (.recv true)) w1) (hc:w1.heap[c]?=some (.chan cap #[] true s r tm))
  (h:Left P ops Q rest (a.put o.dst (.tuple #[z,.bool false])) w1):Left P ops Q (i::rest) a w:=by
 intro b k cs hb;obtain⟨e,a1,w2,hq,harr⟩:=h b k cs hb;have hfin:(b.at a (.inRegion ops (i::rest)::k)).finish (got true z false)=b.at (a.put o.dst (.tuple #[z,.bool false])) (.inRegion ops rest::k):=by rw[Frame.finish_at,ho];rfl
 have hst:=step_lone_recv_shut (P:=P) (cs:=cs) true (stepG_comm (main:=true) (cs:=cs) (k:=k) (rest:=rest) ho hw hb hr) hc;rw[hfin]at hst;exact⟨e,a1,w2,hq,.of_steps (.one hst) harr⟩
end
end Go.Proofs.YtlliliddljkbfaaGreat
namespace Go.Proofs.YtlliliddljkbfaaGreat
open Go.Proofs.Tryz (prog)
open Go.RowKit Go.Conc Sp
theorem acU:∃i,prog.info? 93=some i/\i.bytes=40:=by obtain⟨i,h1,_,_,h4⟩:=info_tok;exact⟨i,h1,h4⟩
theorem aji(n:Nat)(hn:n<=600)(w:World):(Instr.makeChan 202 (.int .i64 (n:Int))).run prog w=.ok (.chan (some w.heap.size)) (w.alloc (.chan n #[] false 0 0 false)):=by obtain⟨i,hi,hb⟩:=acU;exact run_makeChan (P:=prog) (w:=w) Tryz.underlying202 hi .i64 n oo (by rw[hb];omega)
structure iJ(w wr:World)(b c:Nat)(s:ByteArray)(k:Nat)(ts:List Tok):Prop where
 sc:Sc wr b s k
 chan:wr.heap[c]?=some (.chan s.size (ts.map bF).toArray false ts.length 0 false)
 below:Below w.heap.size w wr
 ne:b≠c
 lob:w.heap.size<=b
 loc:w.heap.size<=c
 c0:0<c
theorem iJ.clt{w wr:World}{b c:Nat}{s:ByteArray}{k:Nat}{ts:List Tok}(h:iJ w wr b c s k ts):c<wr.heap.size:=(Ay h.chan)
theorem iJ.went{w wr w':World}{b c:Nat}{s:ByteArray}{k j:Nat}{ts:List Tok}(h:iJ w wr b c s k ts)(hw:aB b s j wr w'):iJ w w' b c s j ts:=⟨hw.1,by rw[hw.2.block c h.clt h.ne.symm];exact h.chan,h.below.trans (hw.2.below h.lob h.below.size),h.ne,h.lob,h.loc,h.c0⟩
theorem iJ.drewN{w wr:World}{b c:Nat}{s:ByteArray}{k:Nat}{ts:List Tok}(h:iJ w wr b c s k ts)(n:Nat):iJ w (wr.drewN n) b c s k ts:=h.went ((aB.refl h.sc).drewN n)
theorem jQ(w:World)(c cap:Nat)(buf:Array Value)(cl:Bool)(s r:Nat)(tm:Bool){j:Nat}(h:j≠c):(w.setChan c cap buf cl s r tm).heap[j]?=w.heap[j]?:=by simp only[World.setChan];rw[Array.getElem?_setIfInBounds_ne oo]
theorem iJ.sent{w wr:World}{b c:Nat}{s:ByteArray}{k:Nat}{ts:List Tok}(h:iJ w wr b c s k ts)(t:Tok):
  iJ w (wr.setChan c s.size ((ts.map bF).toArray.push (bF t)) false (ts.length+1) 0 false) b c s k (ts++[t]):=by
 have hc:=h.c0;refine⟨⟨?_,?_,h.sc.pos,h.sc.len,h.sc.le⟩,?_,below_setChan h.below h.loc _ _ _ _ _ _,h.ne,h.lob,h.loc,h.c0⟩
 .rw[jQ _ _ _ _ _ _ _ _ h.ne];exact h.sc.blk
 .obtain⟨m,hm⟩:=h.sc.glob;exact⟨m,by rw[<-hm];exact World.cell?_of_block (w:=wr) (jQ _ _ _ _ _ _ _ _ (by show(0:Nat)≠c;omega))⟩
 .rw[heap_setChan _ _ _ _ _ _ _ _ h.clt];simp
theorem Df(zM:ByteArray)(w:World)(hs:zM.size<=600)(hg:∃m,w.cell? ⟨0,0,none⟩=some (.int .i64 m))(h0:0<w.heap.size):
  Calls prog 68 #[.string zM] w fun e w'=>∃c cap n,e=.returned (.chan (some c))/\w.heap.size<=c/\w'.heap[c]?=some (.chan cap ((toks (Sp.clean zM)).map bF).toArray true n 0 false)/\Below w.heap.size w w':=by
 have hcs:=oZ zM;have HG:=hid hg;clear hg;refine Dc Tryz.func68 rfl ?_;simp only[Tryz.ntmps68,List.size_toArray,List.length_cons,List.length_nil,Nat.reduceAdd,Nat.reduceSub,Array.replicate_succ,
   Array.replicate_zero,List.push_toArray,List.append_toArray,List.nil_append,List.cons_append]
 refine nN (jI ?_);go_wp2_with fail;refine LD (fun Q' hF=>?_);refine nN (jI ?_);go_wp2_with fail;refine pmb (agq zM w hs) fun w1 hb1=>?_;obtain⟨s,HS⟩:∃s,Hid (Sp.clean zM=s):=⟨_,rfl⟩;rw[HS.o]at hcs⊢;have HB1:=hid hb1;clear hb1;go_wp2_with fail;refine nN (jI ?_);have hmc:=aji s.size oo;go_wp2_with fail;have hw1:w.heap.size<=w1.heap.size:=HB1.o.size;have S0:Hid (iJ w ((w1.alloc (.cells #[.string s,.int .i64 0] 201)).alloc (.chan s.size #[] false 0 0 false)) w1.heap.size (w1.heap.size+1) s 0 []):=by
  refine⟨⟨?_,?_,oo,oo,oo⟩,?_,?_,oo,oo,oo,oo⟩
  .rw[Below.heap_alloc _ _ _ (by simp)];exact heap_alloc_new w1 _
  .obtain⟨m,hm⟩:=HG.o;refine⟨m,?_⟩;rw[<-hm];exact((HB1.o.alloc hw1 _).alloc (by simp;omega) _).cell (p:=⟨0,0,none⟩) h0
  .have:=heap_alloc_new (w1.alloc (.cells #[.string s,.int .i64 0] 201)) (.chan s.size #[] false 0 0 false);simpa using this
  .exact(HB1.o.alloc hw1 _).alloc (by simp;omega) _
 refine nN ?_;refine Et ?_;refine RI (fun n a wr=>∃(k:Nat) (ts:List Tok) (u12 u13 u14 u15 u16:Value),a=⟨#[Value.string zM,undef,Value.chan none,Value.pointer (some ⟨w1.heap.size,0,none⟩),Value.chan (some (w1.heap.size+1)),Value.string zM,Value.string s,Value.agg #[Value.string s,Value.int .i64 0],Value.pointer (some ⟨w1.heap.size,0,none⟩),Value.string s,Value.int .i64 (s.size:Int),Value.chan (some (w1.heap.size+1)),u12,u13,u14,u15,u16,undef,undef],[]⟩/\s.size<=k+n/\ts.length<=k/\ts++tokF s n (com s k)=toks s/\iJ w wr w1.heap.size (w1.heap.size+1) s k ts) s.size ⟨0,[],undef,undef,undef,undef,undef,rfl,oo,by simp,rfl,S0.o⟩ ?_;rintro gk _ wr ⟨k,ts,u12,u13,u14,u15,u16,rfl,hk,htl,hts,hS⟩;have HT:=hid hts;have S1:=hid hS;clear hts hS S0
 have hkl:=S1.o.sc.le;have hcg:=Vq hkl;have hcl:=Af hkl;refine Et ?_;refine nN (jI ?_);go_wp2_with fail;refine pmb (IV s w1.heap.size k _ S1.o.sc) fun w2 aj=>?_;have S2:=hid (S1.o.went aj);clear aj;obtain⟨k1,HK⟩:∃k1,Hid (com s k=k1):=⟨_,rfl⟩;rw[HK.o]at hcg hcl;have S3:Hid (iJ w w2 w1.heap.size (w1.heap.size+1) s k1 ts):=by have:=S2.o;rw[HK.o]at this;exact this
 have HT2:Hid (ts++tokF s gk k1=toks s):=by have:=HT.o;rw[HK.o]at this;exact this
 clear S1 S2 HT;go_wp2_with fail;refine nN (jI ?_);by_cases hend:s.size<=k1
 .have e0:(pk s k1 == -1)=true:=by rw[oK hend];rfl
  have HV:Hid (ts=toks s):=by
   show ts=toks s;rw[<-HT2.o];cases gk with
   |zero=>simp[tokF]
   |succ f=>unfold tokF;rw[if_pos hend];simp
  go_wp2_with fail;refine cZ (ak s w1.heap.size k1 _ k1 _ S3.o.sc ⟨oo,oo,oo⟩) fun nq=>?_;go_wp2_with fail;go_step3
  refine hF.go 0 _ _ _ rfl ?_;clear hF;have S4:Hid (iJ w (w2.drewN nq) w1.heap.size (w1.heap.size+1) s k1 ts):=S3.o.drewN nq;obtain⟨w3,hcl,HC,HB⟩:∃w3:World,(∀ats ty,(Builtin.close_ ats ty #[.chan (some (w1.heap.size+1))]).run prog (w2.drewN nq)=.ok (.tuple #[]) w3)/\Hid (w3.heap[w1.heap.size+1]?=some (.chan s.size (ts.map bF).toArray true ts.length 0 false))/\Hid (Below w.heap.size w w3):=⟨(w2.drewN nq).setChan (w1.heap.size+1) s.size (ts.map bF).toArray true ts.length 0 false,fun ats ty=>run_close_open (P:=prog) (w:=w2.drewN nq) ats ty S4.o.chan,heap_setChan _ _ _ _ _ _ _ _ S4.o.clt,below_setChan S4.o.below S4.o.loc _ _ _ _ _ _⟩
  go_wp2_with fail;rw[Exit.noGoto_ret];go_ret;refine⟨w1.heap.size+1,s.size,ts.length,rfl,oo,?_,HB.o⟩;rw[HS.o,<-HV.o];exact HC.o
 .have e0:(pk s k1 == -1)=false:=by have:=tK (s:=s) (i:=k1) oo;simp;omega
  have hlt:k1<s.size:=oo;obtain⟨f,rfl⟩:∃f,gk=f+1:=⟨gk-1,oo⟩;have htg:=xA hlt;have anq:=xB hlt;have HV:Hid (ts++[(token s k1).1]++tokF s f (com s (token s k1).2)=toks s):=by
   show _=_;rw[<-HT2.o];conv=>rhs;unfold tokF
   rw[if_neg hend];simp
  go_wp2_with fail;refine cZ (ak s w1.heap.size k1 _ k1 _ S3.o.sc ⟨oo,oo,oo⟩) fun nq=>?_;have S4:Hid (iJ w (w2.drewN nq) w1.heap.size (w1.heap.size+1) s k1 ts):=S3.o.drewN nq;go_wp2_with fail;refine I9 ?_;show Left _ _ _ [0,1,2] _ _;refine AQ (v:=.chan (some (w1.heap.size+1))) (w':=w2.drewN nq) rfl rfl (by simp[go_sem]) ?_;refine aav (f:=114) (args:=#[.pointer (some ⟨w1.heap.size,0,none⟩)]) (w':=w2.drewN nq) (S:=fun v w'=>v=bF (token s k1).1/\aB w1.heap.size s (token s k1).2 (w2.drewN nq) w') rfl rfl (by simp[go_sem]) ((agm s w1.heap.size k1 _ S4.o.sc hlt).mono fun e w' h=>⟨_,h.1,rfl,h.2⟩) ?_;rintro _ w4 ⟨rfl,aj⟩;have S5:=hid (S4.o.went aj);clear aj
  refine aaw (c:=w1.heap.size+1) (cap:=s.size) (s:=ts.length) (r:=0) (buf:=(ts.map bF).toArray) (v:=bF (token s k1).1) (z':=.tuple #[]) (tm:=false) (w1:=w4) rfl rfl (by simp[go_sem,execOp,scase,Act.eval,Act.put]) S5.o.chan (by simp;omega) ?_;refine left_nil ?_;refine⟨f,oo,(token s k1).2,ts++[(token s k1).1],_,_,_,_,_,rfl,oo,by simp;omega,HV.o,S5.o.sent _⟩
end Go.Proofs.YtlliliddljkbfaaGreat
namespace Go.Proofs.YtlliliddljkbfaaGreat
open Go.RowKit Go.Conc Sp
end Go.Proofs.YtlliliddljkbfaaGreat
namespace Go.Proofs.YtlliliddljkbfaaGreat
open Go.Proofs.Tryz (prog)
open Go.RowKit Sp
theorem YK{s:BY}{k:Nat}(h:k<s.size):pk s k=(s[k].toNat:Int):=by unfold pk;rw[dif_pos h]
def allB(p:UInt8->Bool)(s:BY):Bool:=s.data.toList.all p
def rJ(p:UInt8->Bool)(s:BY)(k:Nat):Bool:=(s.data.toList.take k).all p
theorem vU(p:UInt8->Bool){s:BY}{k:Nat}(h:k<s.size):rJ p s (k+1)=(rJ p s k&&p s[k]):=by
 unfold rJ;have h':k<s.data.toList.length:=by simpa using h
 rw[List.take_succ_eq_append_getElem h',List.all_append];simp[ByteArray.getElem_eq_getElem_data]
theorem Eu(p:UInt8->Bool)(s:BY):rJ p s s.size=allB p s:=by unfold rJ allB;rw[List.take_of_length_le (by simp)]
theorem x9(p:UInt8->Bool){s:BY}{k:Nat}(h:k<s.size)(hp:p s[k]=false):allB p s=false:=by
 unfold allB;have h':k<s.data.toList.length:=by simpa using h
 rw[List.all_eq_false];exact⟨s.data.toList[k],List.getElem_mem _,by simpa[ByteArray.getElem_eq_getElem_data]using hp⟩
def eX:wV BY:=fun _ _ s cs=>cs=[.string s]/\s.size<=4194304
def qH:wV (BY×BY):=fun _ _ a cs=>cs=[.string a.1,.string a.2]/\a.1.size<=4194304/\a.2.size<=4194304
def wO:wV Elem:=fun S w x cs=>∃cv av,cs=[.int .i64 x.parent,.string x.tag,.string x.id,cv,av]/\SG eX 1 S w cv x.classes/\SG qH 2 S w av x.attrs/\x.tag.size<=4194304/\x.id.size<=4194304 /\ -9223372036854775808<=x.parent/\x.parent<=9223372036854775807
theorem eX.fair:Fair eX:=fun _ _ _ _ _ _ _ _ h=>h
theorem qH.fair:Fair qH:=fun _ _ _ _ _ _ _ _ h=>h
theorem wO.fair:Fair wO:=by rintro S S' w w' x cs hS hw ⟨cv,av,h1,h2,h3,h4⟩;exact⟨cv,av,h1,h2.keep eX.fair hS hw,h3.keep qH.fair hS hw,h4⟩
theorem wO.sized:ug wO 5:=by rintro S w x cs ⟨cv,av,rfl,_⟩;rfl
structure ak9(S:Nat->Prop)(w:WD)(x:Elem)(g o:Nat)(cv av:Av):Prop where
 s:S g
 c0:w.cell? ⟨g,o,none⟩=some (.int .i64 x.parent)
 c1:w.cell? ⟨g,o+1,none⟩=some (.string x.tag)
 c2:w.cell? ⟨g,o+2,none⟩=some (.string x.id)
 c3:w.cell? ⟨g,o+3,none⟩=some cv
 c4:w.cell? ⟨g,o+4,none⟩=some av
 cl:SG eX 1 S w cv x.classes
 at_:SG qH 2 S w av x.attrs
 tag:x.tag.size<=4194304
 id:x.id.size<=4194304
 lo: -9223372036854775808<=x.parent
 hi:x.parent<=9223372036854775807
theorem EG.el{S:Nat->Prop}{w:WD}{x:Elem}{g o:Nat}(h:EG wO S w x g o):∃cv av,ak9 S w x g o cv av:=by obtain⟨h0,cs,⟨cv,av,rfl,h2,h3,h4,h5,h6,h7⟩,hc⟩:=h;exact⟨cv,av,h0,hc 0 _ rfl,hc 1 _ rfl,hc 2 _ rfl,hc 3 _ rfl,hc 4 _ rfl,h2,h3,h4,h5,h6,h7⟩
theorem LG.el{S:Nat->Prop}{w:WD}{l:List Elem}{g o i:Nat}(h:LG wO 5 S w l g o)(hi:i<l.length):∃cv av,ak9 S w l[i] g (o+i*5) cv av:=(h.at l g o i hi).el
theorem LG.str{S:Nat->Prop}{w:WD}{l:List BY}{g o i:Nat}(h:LG eX 1 S w l g o)(hi:i<l.length):S g/\w.cell? ⟨g,o+i,none⟩=some (.string l[i])/\l[i].size<=4194304:=by obtain⟨h0,cs,⟨rfl,h2⟩,hc⟩:=h.at l g o i hi;have:=hc 0 _ rfl;rw[Nat.mul_one,Nat.add_zero]at this;exact⟨h0,this,h2⟩
theorem LG.att{S:Nat->Prop}{w:WD}{l:List (BY×BY)}{g o i:Nat}(h:LG qH 2 S w l g o)(hi:i<l.length):S g/\w.cell? ⟨g,o+i*2,none⟩=some (.string l[i].1)/\w.cell? ⟨g,o+i*2+1,none⟩=some (.string l[i].2)/\l[i].1.size<=4194304/\l[i].2.size<=4194304:=by obtain⟨h0,cs,⟨rfl,h2,h3⟩,hc⟩:=h.at l g o i hi;exact⟨h0,hc 0 _ rfl,hc 1 _ rfl,h2,h3⟩
def acV(c:BY):Bool:=nameP c&&!decide (c=aA)
def aay(a:BY×BY):Bool:=nameP a.1&&dK a.2&&!decide (a.1=aA)
def Wi(i:Nat)(x:Elem):Bool:=if i=0 then x.parent == -1 else decide (0<=x.parent)&&decide (x.parent<i)
def acW(i:Nat)(x:Elem):Bool:=nameP x.tag&&!decide (x.tag=aA)&&nameP x.id&&decide (x.classes.length<=4)&&decide (x.attrs.length<=4)&&Wi i x
theorem RJ(i:Nat)(x:Elem):xC i x=(acW i x&&x.classes.all acV&&x.attrs.all aay):=rfl
theorem RN:∀(p:aI) (i k:Nat) (h:k<p.length),gI i (p.drop k)=(xC i p[k]&&gI (i+1) (p.drop (k+1)))
 |p,i,k,h=>by rw[List.drop_eq_getElem_cons h];rfl
section
attribute [local go_sem] bI bJ aX aY
def sgB(s:BY):Bool:=s.toList==[43]||s.toList==[45]||s.toList==[42]||s.toList==[47]||s.toList==[46]||s.toList==[44]||s.toList==[58]||s.toList==[37]||s.toList==[61]||s.toList==[40]||s.toList==[91]||s.toList==[123]
theorem RP(s:BY)(w:WD):Calls prog 248 #[.string s] w fun e w'=>e=.returned (.bool (sgB s))/\w'=w:=by
 go_in;go_wp2_with fail;all_goals
  go_ret;refine⟨aC ?_,rfl⟩;first|(simp[sgB, *];done)|(exfalso;simp_all;done)
theorem ajj(t:Tok)(h:t.kind=15):sgB t.word=(!decide (closing t=aA)||vk t.word):=by
 unfold sgB vk;rw[ay,ay,ay,ay,ay,ay,ay,ay,ay,ay,ay,ay];have hc:closing t=if t.word=b1 40 then b1 41 else if t.word=b1 91 then b1 93 else if t.word=b1 123 then b1 125 else aA:=by unfold closing;rw[if_neg (by rw[h];decide),if_pos h]
 rw[hc];show(decide (t.word=b1 43)||decide (t.word=b1 45)||decide (t.word=b1 42)||decide (t.word=b1 47)||decide (t.word=b1 46)||decide (t.word=b1 44)||decide (t.word=b1 58)||decide (t.word=b1 37)||decide (t.word=b1 61)||decide (t.word=b1 40)||decide (t.word=b1 91)||decide (t.word=b1 123))=_;by_cases h1:t.word=b1 40
 .rw[if_pos h1,decide_eq_true h1];simp[show ¬b1 41=aA by decide]
 .rw[if_neg h1,decide_eq_false h1];by_cases h2:t.word=b1 91
  .rw[if_pos h2,decide_eq_true h2];simp[show ¬b1 93=aA by decide]
  .rw[if_neg h2,decide_eq_false h2];by_cases h3:t.word=b1 123
   .rw[if_pos h3,decide_eq_true h3];simp[show ¬b1 125=aA by decide]
   .rw[if_neg h3,decide_eq_false h3];cases decide (t.word=b1 43)<;>cases decide (t.word=b1 45)<;>cases decide (t.word=b1 42)<;>cases decide (t.word=b1 47)<;>cases decide (t.word=b1 46)<;>cases decide (t.word=b1 44)<;>cases decide (t.word=b1 58)<;>cases decide (t.word=b1 37)<;>cases decide (t.word=b1 61)<;>rfl
end
section
attribute [local go_sem] bI bJ aX aY
theorem vV(zs:List BY)(x:BY):zs.contains x=zs.any (fun z=>decide (x=z)):=by
 induction zs with
 |nil=>rfl
 |cons z r ih=>
  rw[List.contains_cons,ih,List.any_cons];congr 1
  rw[Bool.eq_iff_iff];obtain⟨xd⟩:=x;obtain⟨zd⟩:=z;show(xd==zd)=true↔decide (_=_)=true;simp
theorem YL(S:Nat->Prop)(zs:List BY)(v:Av)(x:BY)(w:WD)(h:SG eX 1 S w v zs):
  Calls prog 188 #[v,.string x] w fun e w'=>e=.returned (.bool (zs.contains x))/\w'=w:=by
 obtain⟨a,cap,rfl⟩:=h.form;cases zs with
 |nil=>exact Tryz.slices_Contains_string_empty a cap x w
 |cons z r=>
  have hl:=h.len;obtain⟨g,o,rfl,hL,hcap⟩:=h.here Ab;have:=Tryz.slices_Contains_string g o (z::r).length cap (z::r) x w nl oo (fun j hj=>by have h1:=(hL.str (i:=j) hj).2.1;rw[h1,List.getD_eq_getElem?_getD,List.getElem?_eq_getElem hj];rfl)
  rw[List.take_of_length_le nl,y9,<-vV]at this;exact this
def dF(p:aF)(pv fv av:Av):Av:=.agg #[.string p.root,pv,fv,av,.bool p.aU,.bool p.texts]
structure jK(B:Nat)(w:WD)(p:aF)(pv fv av:Av):Prop where
 props:SG eX 1 (fun b=>b<B) w pv p.props
 aJ:SG eX 1 (fun b=>b<B) w fv p.aJ
 ats:SG eX 1 (fun b=>b<B) w av p.ats
 lt:B<=w.heap.size
theorem jK.below{B:Nat}{w w':WD}{p:aF}{pv fv av:Av}{g:Nat}(h:jK B w p pv fv av)(hb:Below g w w')(hg:B<=g):jK B w' p pv fv av:=⟨h.props.below eX.fair hb hg,h.aJ.below eX.fair hb hg,h.ats.below eX.fair hb hg,Nat.le_trans h.lt hb.size⟩
def Q6(w:WD)(b:Nat)(x0 x1 x2 x3 x4 x5:Av):Prop:=w.heap[b]?=some (.cells #[x0,x1,x2,x3,x4,x5] 82 (0,0))
section
variable {w w':WD} {b:Nat} {x0 x1 x2 x3 x4 x5:Av}
theorem Q6.lt(h:Q6 w b x0 x1 x2 x3 x4 x5):b<w.heap.size:=(Ay h)
theorem Q6.cs(h:Q6 w b x0 x1 x2 x3 x4 x5):w.cell? ⟨b,0,none⟩=some x0/\w.cell? ⟨b,1,none⟩=some x1/\w.cell? ⟨b,2,none⟩=some x2/\w.cell? ⟨b,3,none⟩=some x3/\w.cell? ⟨b,4,none⟩=some x4/\w.cell? ⟨b,5,none⟩=some x5:=by have h':w.heap[b]?=_:=h;refine⟨?_,?_,?_,?_,?_,?_⟩<;>(unfold World.cell?;rw[h'];rfl)
theorem Q6.below{g:Nat}(h:Q6 w b x0 x1 x2 x3 x4 x5)(hb:Below g w w')(hg:b<g):Q6 w' b x0 x1 x2 x3 x4 x5:=by show _=_;rw[hb.block b hg];exact h
theorem Q6.new(w:WD)(x0 x1 x2 x3 x4 x5:Av):Q6 (w.alloc (.cells #[x0,x1,x2,x3,x4,x5] 82)) w.heap.size x0 x1 x2 x3 x4 x5:=heap_alloc_new w _
theorem Q6.nb(p:aF)(pa fa aa:Option Addr)(pc fc ac:Nat)(w:WD):Hid (Below w.heap.size w (w.alloc (.cells #[.string p.root,.slice pa p.props.length pc,.slice fa p.aJ.length fc,.slice aa p.ats.length ac,.bool p.aU,.bool p.texts] 82)))/\Hid (Q6 (w.alloc (.cells #[.string p.root,.slice pa p.props.length pc,.slice fa p.aJ.length fc,.slice aa p.ats.length ac,.bool p.aU,.bool p.texts] 82)) w.heap.size (.string p.root) (.slice pa p.props.length pc) (.slice fa p.aJ.length fc) (.slice aa p.ats.length ac) (.bool p.aU) (.bool p.texts)):=⟨Ax.alloc nl _,Q6.new _ _ _ _ _ _ _⟩
theorem Q6.alloc(h:Q6 w b x0 x1 x2 x3 x4 x5)(o:Obj):Q6 (w.alloc o) b x0 x1 x2 x3 x4 x5:=h.below (Ax.alloc nl _) h.lt
end
section
variable (p:aF) (pa fa aa:Option Addr) (pl pc fl fc al ac:Nat) (wd un:BY) (ka:Option Addr) (kl kc:Nat) (w:WD)
theorem fJ(o1 o2:Obj):Below w.heap.size w ((w.alloc o1).alloc o2):=(Ax.alloc nl _).alloc Ab _
theorem ala:Calls prog 189 #[dF p (.slice pa pl pc) (.slice fa fl fc) (.slice aa al ac),.agg #[.int .i64 2,.string wd,.string un,.slice ka kl kc]] w fun e w'=>e=.returned (.bool p.texts)/\Below w.heap.size w w':=by have B2:Hid (Below w.heap.size w ((w.alloc (.cells #[.string p.root,.slice pa pl pc,.slice fa fl fc,.slice aa al ac,.bool p.aU,.bool p.texts] 82)).alloc (.cells #[.int .i64 2,.string wd,.string un,.slice ka kl kc] 199))):=fJ _ _ _;unfold dF;go_in;go_wp2_with fail;go_ret;exact⟨rfl,B2.o⟩
theorem alb:Calls prog 189 #[dF p (.slice pa pl pc) (.slice fa fl fc) (.slice aa al ac),.agg #[.int .i64 1,.string wd,.string un,.slice ka kl kc]] w fun e w'=>e=.returned (.bool true)/\Below w.heap.size w w':=by have B2:Hid (Below w.heap.size w ((w.alloc (.cells #[.string p.root,.slice pa pl pc,.slice fa fl fc,.slice aa al ac,.bool p.aU,.bool p.texts] 82)).alloc (.cells #[.int .i64 1,.string wd,.string un,.slice ka kl kc] 199))):=fJ _ _ _;unfold dF;go_in;go_wp2_with fail;go_ret;exact⟨rfl,B2.o⟩
theorem alc:Calls prog 189 #[dF p (.slice pa pl pc) (.slice fa fl fc) (.slice aa al ac),.agg #[.int .i64 4,.string wd,.string un,.slice ka kl kc]] w fun e w'=>e=.returned (.bool true)/\Below w.heap.size w w':=by have B2:Hid (Below w.heap.size w ((w.alloc (.cells #[.string p.root,.slice pa pl pc,.slice fa fl fc,.slice aa al ac,.bool p.aU,.bool p.texts] 82)).alloc (.cells #[.int .i64 4,.string wd,.string un,.slice ka kl kc] 199))):=fJ _ _ _;unfold dF;go_in;go_wp2_with fail;go_ret;exact⟨rfl,B2.o⟩
theorem ald:Calls prog 189 #[dF p (.slice pa pl pc) (.slice fa fl fc) (.slice aa al ac),.agg #[.int .i64 5,.string wd,.string un,.slice ka kl kc]] w fun e w'=>e=.returned (.bool true)/\Below w.heap.size w w':=by have B2:Hid (Below w.heap.size w ((w.alloc (.cells #[.string p.root,.slice pa pl pc,.slice fa fl fc,.slice aa al ac,.bool p.aU,.bool p.texts] 82)).alloc (.cells #[.int .i64 5,.string wd,.string un,.slice ka kl kc] 199))):=fJ _ _ _;unfold dF;go_in;go_wp2_with fail;go_ret;exact⟨rfl,B2.o⟩
theorem ale:Calls prog 189 #[dF p (.slice pa pl pc) (.slice fa fl fc) (.slice aa al ac),.agg #[.int .i64 6,.string wd,.string un,.slice ka kl kc]] w fun e w'=>e=.returned (.bool true)/\Below w.heap.size w w':=by have B2:Hid (Below w.heap.size w ((w.alloc (.cells #[.string p.root,.slice pa pl pc,.slice fa fl fc,.slice aa al ac,.bool p.aU,.bool p.texts] 82)).alloc (.cells #[.int .i64 6,.string wd,.string un,.slice ka kl kc] 199))):=fJ _ _ _;unfold dF;go_in;go_wp2_with fail;go_ret;exact⟨rfl,B2.o⟩
theorem alf:Calls prog 189 #[dF p (.slice pa pl pc) (.slice fa fl fc) (.slice aa al ac),.agg #[.int .i64 7,.string wd,.string un,.slice ka kl kc]] w fun e w'=>e=.returned (.bool true)/\Below w.heap.size w w':=by have B2:Hid (Below w.heap.size w ((w.alloc (.cells #[.string p.root,.slice pa pl pc,.slice fa fl fc,.slice aa al ac,.bool p.aU,.bool p.texts] 82)).alloc (.cells #[.int .i64 7,.string wd,.string un,.slice ka kl kc] 199))):=fJ _ _ _;unfold dF;go_in;go_wp2_with fail;go_ret;exact⟨rfl,B2.o⟩
theorem ajk:Calls prog 189 #[dF p (.slice pa pl pc) (.slice fa fl fc) (.slice aa al ac),.agg #[.int .i64 14,.string wd,.string un,.slice ka kl kc]] w fun e w'=>e=.returned (.bool true)/\Below w.heap.size w w':=by have B2:Hid (Below w.heap.size w ((w.alloc (.cells #[.string p.root,.slice pa pl pc,.slice fa fl fc,.slice aa al ac,.bool p.aU,.bool p.texts] 82)).alloc (.cells #[.int .i64 14,.string wd,.string un,.slice ka kl kc] 199))):=fJ _ _ _;unfold dF;go_in;go_wp2_with fail;go_ret;exact⟨rfl,B2.o⟩
theorem alg:Calls prog 189 #[dF p (.slice pa pl pc) (.slice fa fl fc) (.slice aa al ac),.agg #[.int .i64 3,.string wd,.string un,.slice ka kl kc]] w fun e w'=>e=.returned (.bool false)/\Below w.heap.size w w':=by have B2:Hid (Below w.heap.size w ((w.alloc (.cells #[.string p.root,.slice pa pl pc,.slice fa fl fc,.slice aa al ac,.bool p.aU,.bool p.texts] 82)).alloc (.cells #[.int .i64 3,.string wd,.string un,.slice ka kl kc] 199))):=fJ _ _ _;unfold dF;go_in;go_wp2_with fail;go_ret;exact⟨rfl,B2.o⟩
theorem alh:Calls prog 189 #[dF p (.slice pa pl pc) (.slice fa fl fc) (.slice aa al ac),.agg #[.int .i64 8,.string wd,.string un,.slice ka kl kc]] w fun e w'=>e=.returned (.bool false)/\Below w.heap.size w w':=by have B2:Hid (Below w.heap.size w ((w.alloc (.cells #[.string p.root,.slice pa pl pc,.slice fa fl fc,.slice aa al ac,.bool p.aU,.bool p.texts] 82)).alloc (.cells #[.int .i64 8,.string wd,.string un,.slice ka kl kc] 199))):=fJ _ _ _;unfold dF;go_in;go_wp2_with fail;go_ret;exact⟨rfl,B2.o⟩
theorem ali:Calls prog 189 #[dF p (.slice pa pl pc) (.slice fa fl fc) (.slice aa al ac),.agg #[.int .i64 9,.string wd,.string un,.slice ka kl kc]] w fun e w'=>e=.returned (.bool false)/\Below w.heap.size w w':=by have B2:Hid (Below w.heap.size w ((w.alloc (.cells #[.string p.root,.slice pa pl pc,.slice fa fl fc,.slice aa al ac,.bool p.aU,.bool p.texts] 82)).alloc (.cells #[.int .i64 9,.string wd,.string un,.slice ka kl kc] 199))):=fJ _ _ _;unfold dF;go_in;go_wp2_with fail;go_ret;exact⟨rfl,B2.o⟩
theorem ajl:Calls prog 189 #[dF p (.slice pa pl pc) (.slice fa fl fc) (.slice aa al ac),.agg #[.int .i64 10,.string wd,.string un,.slice ka kl kc]] w fun e w'=>e=.returned (.bool false)/\Below w.heap.size w w':=by have B2:Hid (Below w.heap.size w ((w.alloc (.cells #[.string p.root,.slice pa pl pc,.slice fa fl fc,.slice aa al ac,.bool p.aU,.bool p.texts] 82)).alloc (.cells #[.int .i64 10,.string wd,.string un,.slice ka kl kc] 199))):=fJ _ _ _;unfold dF;go_in;go_wp2_with fail;go_ret;exact⟨rfl,B2.o⟩
theorem ajm:Calls prog 189 #[dF p (.slice pa pl pc) (.slice fa fl fc) (.slice aa al ac),.agg #[.int .i64 12,.string wd,.string un,.slice ka kl kc]] w fun e w'=>e=.returned (.bool false)/\Below w.heap.size w w':=by have B2:Hid (Below w.heap.size w ((w.alloc (.cells #[.string p.root,.slice pa pl pc,.slice fa fl fc,.slice aa al ac,.bool p.aU,.bool p.texts] 82)).alloc (.cells #[.int .i64 12,.string wd,.string un,.slice ka kl kc] 199))):=fJ _ _ _;unfold dF;go_in;go_wp2_with fail;go_ret;exact⟨rfl,B2.o⟩
theorem ajn:Calls prog 189 #[dF p (.slice pa pl pc) (.slice fa fl fc) (.slice aa al ac),.agg #[.int .i64 13,.string wd,.string un,.slice ka kl kc]] w fun e w'=>e=.returned (.bool false)/\Below w.heap.size w w':=by have B2:Hid (Below w.heap.size w ((w.alloc (.cells #[.string p.root,.slice pa pl pc,.slice fa fl fc,.slice aa al ac,.bool p.aU,.bool p.texts] 82)).alloc (.cells #[.int .i64 13,.string wd,.string un,.slice ka kl kc] 199))):=fJ _ _ _;unfold dF;go_in;go_wp2_with fail;go_ret;exact⟨rfl,B2.o⟩
theorem ajo:Calls prog 189 #[dF p (.slice pa pl pc) (.slice fa fl fc) (.slice aa al ac),.agg #[.int .i64 15,.string wd,.string un,.slice ka kl kc]] w fun e w'=>e=.returned (.bool (sgB wd))/\Below w.heap.size w w':=by have B2:Hid (Below w.heap.size w ((w.alloc (.cells #[.string p.root,.slice pa pl pc,.slice fa fl fc,.slice aa al ac,.bool p.aU,.bool p.texts] 82)).alloc (.cells #[.int .i64 15,.string wd,.string un,.slice ka kl kc] 199))):=fJ _ _ _;unfold dF;go_in;go_wp2_with fail;refine pmb (RP wd _) fun wq hwq=>?_;rw[hwq];go_wp2_with fail;go_ret;exact⟨rfl,B2.o⟩
end
end
section
attribute [local go_sem] bI bJ aX aY
theorem Q6.drew{w:WD}{b:Nat}{x0 x1 x2 x3 x4 x5:Av}(h:Q6 w b x0 x1 x2 x3 x4 x5):Q6 w.drew b x0 x1 x2 x3 x4 x5:=h
theorem ajp(B:Nat)(p:aF)(pa fa aa:Option Addr)(pl pc fc al ac:Nat)(wd un:BY)(ka:Option Addr)(kl kc:Nat)(w:WD)(hf:SG eX 1 (fun b=>b<B) w (.slice fa p.aJ.length fc) p.aJ)(hB:B<=w.heap.size)(hw:wd.size<=4000000):
  Calls prog 189 #[dF p (.slice pa pl pc) (.slice fa p.aJ.length fc) (.slice aa al ac),.agg #[.int .i64 11,.string wd,.string un,.slice ka kl kc]] w fun e w'=>e=.returned (.bool (p.aJ.contains (small wd)))/\Below w.heap.size w w':=by
 have B2:Hid (Below w.heap.size w ((w.alloc (.cells #[.string p.root,.slice pa pl pc,.slice fa p.aJ.length fc,.slice aa al ac,.bool p.aU,.bool p.texts] 82)).alloc (.cells #[.int .i64 11,.string wd,.string un,.slice ka kl kc] 199)).drew):=(fJ w _ _).drew;have P2:Hid (Q6 ((w.alloc (.cells #[.string p.root,.slice pa pl pc,.slice fa p.aJ.length fc,.slice aa al ac,.bool p.aU,.bool p.texts] 82)).alloc (.cells #[.int .i64 11,.string wd,.string un,.slice ka kl kc] 199)).drew w.heap.size (.string p.root) (.slice pa pl pc) (.slice fa p.aJ.length fc) (.slice aa al ac) (.bool p.aU) (.bool p.texts)):=(Q6.new w _ _ _ _ _ _).alloc _
 have A2:Hid (VB ((w.alloc (.cells #[.string p.root,.slice pa pl pc,.slice fa p.aJ.length fc,.slice aa al ac,.bool p.aU,.bool p.texts] 82)).alloc (.cells #[.int .i64 11,.string wd,.string un,.slice ka kl kc] 199)).drew (w.heap.size+1) (.int .i64 11) (.string wd) (.string un) (.slice ka kl kc)):=by have:=VB.new (w.alloc (.cells #[.string p.root,.slice pa pl pc,.slice fa p.aJ.length fc,.slice aa al ac,.bool p.aU,.bool p.texts] 82)) (.int .i64 11) (.string wd) (.string un) (.slice ka kl kc);rw[show(w.alloc (.cells #[.string p.root,.slice pa pl pc,.slice fa p.aJ.length fc,.slice aa al ac,.bool p.aU,.bool p.texts] 82)).heap.size=w.heap.size+1 by simp]at this;exact this
 have F2:Hid (SG eX 1 (fun b=>b<B) ((w.alloc (.cells #[.string p.root,.slice pa pl pc,.slice fa p.aJ.length fc,.slice aa al ac,.bool p.aU,.bool p.texts] 82)).alloc (.cells #[.int .i64 11,.string wd,.string un,.slice ka kl kc] 199)).drew (.slice fa p.aJ.length fc) p.aJ):=hf.below eX.fair B2.o hB;clear hf;unfold dF;go_in;go_wp2_with fail;refine wp_region_any Ao ?_;change wpAny _ _ _ _ _ _ _ (World.drew _);generalize((w.alloc (.cells #[.string p.root,.slice pa pl pc,.slice fa p.aJ.length fc,.slice aa al ac,.bool p.aU,.bool p.texts] 82)).alloc (.cells #[.int .i64 11,.string wd,.string un,.slice ka kl kc] 199)).drew=w2 at *;have hs2:=B2.o.size
 have Qi:Hid (Q6 w2 w.heap.size (.string p.root) (.slice pa pl pc) (.slice fa p.aJ.length fc) (.slice aa al ac) (.bool p.aU) (.bool p.texts)/\VB w2 (w.heap.size+1) (.int .i64 11) (.string wd) (.string un) (.slice ka kl kc)):=⟨P2.o,A2.o⟩;refine wpAny_of_held (S:=fun wx=>Q6 wx w.heap.size (.string p.root) (.slice pa pl pc) (.slice fa p.aJ.length fc) (.slice aa al ac) (.bool p.aU) (.bool p.texts)/\VB wx (w.heap.size+1) (.int .i64 11) (.string wd) (.string un) (.slice ka kl kc)) _ _ _ _ ?_;refine dH 0 rfl Qi.o (by intro w hSw;obtain⟨a0,a1,a2,a3,a4,a5⟩:=hSw.1.cs;exact gs) ?_;refine dH 1 rfl Qi.o (by intro w hSw;obtain⟨a0,a1,a2,a3,a4,a5⟩:=hSw.1.cs;exact gs) ?_;refine dH 2 rfl Qi.o (by intro w hSw;obtain⟨a0,a1,a2,a3,a4,a5⟩:=hSw.1.cs;exact gs) ?_
 refine dH 3 rfl Qi.o (by intro w hSw;obtain⟨a0,a1,a2,a3⟩:=hSw.2.cs;exact gs) ?_;refine dH 4 rfl Qi.o (by intro w hSw;obtain⟨a0,a1,a2,a3⟩:=hSw.2.cs;exact gs) ?_;refine dH 5 rfl Qi.o (by intro w hSw;obtain⟨a0,a1,a2,a3⟩:=hSw.2.cs;exact gs) ?_;refine iW 6 fun K hK=>?_;go_simp;refine pmb (nH wd _ hw) fun w3 hb3=>?_;have B3:=hid (B2.o.trans (hb3.mono hs2));have OC:Hid (Q6 w3 w.heap.size (.string p.root) (.slice pa pl pc) (.slice fa p.aJ.length fc) (.slice aa al ac) (.bool p.aU) (.bool p.texts)/\VB w3 (w.heap.size+1) (.int .i64 11) (.string wd) (.string un) (.slice ka kl kc)):=⟨Qi.o.1.below hb3 Qi.o.1.lt,Qi.o.2.below hb3⟩;have F3:=hid (F2.o.below eX.fair hb3 oo);clear hb3
 refine hK.o _ _ OC.o (fun _=>?_);clear hK K;refine iW 7 fun K hK=>?_;go_simp;refine pmb (YL _ p.aJ _ (small wd) w3 F3.o) fun w4 hw4=>?_;rw[hw4];refine hK.o _ _ OC.o (fun _=>?_);clear hK K;refine iW 8 fun K hK=>?_;go_simp;refine hK.o _ _ (OC.o) (fun _=>?_);clear hK K;refine wpAnyH_done Ao ?_ _;go_wp2_with fail;go_ret;exact⟨rfl,B3.o⟩
def Qj(t:Tok):Bool:=decide (1<=t.kind)&&decide (t.kind<=15)
def OJ(l:List Nd):Prop:=jg (fun t=>!Qj t) l=false
theorem Nk(g:Tok->Bool)(n:Nd)(r:List Nd):jg g (n::r)=(g n.t||jg g n.kids||jg g r):=by
 obtain⟨t,k⟩:=n;conv=>lhs;unfold jg;unfold Qz
 rfl
theorem Jb{n:Nd}{r:List Nd}(h:OJ (n::r)):Qj n.t=true/\OJ n.kids/\OJ r:=by unfold OJ at h;rw[Nk]at h;simp only[Bool.or_eq_false_iff,Bool.not_eq_false']at h;exact⟨h.1.1,h.1.2,h.2⟩
theorem pz(p:aF)(n:Nd)(r:List Nd):eH p (n::r)=(oI p n.t&&eH p n.kids&&eH p r):=by unfold eH;rw[Nk];cases oI p n.t<;>simp
theorem agr(B:Nat)(p:aF)(pv fv av:Av)(t:Tok)(ka:Option Addr)(kl kc:Nat)(w:WD)(h:jK B w p pv fv av)(hk:Qj t=true)(hw:t.word.size<=4000000):
  Calls prog 189 #[dF p pv fv av,fB t (.slice ka kl kc)] w fun e w'=>e=.returned (.bool (oI p t))/\Below w.heap.size w w':=by
 obtain⟨pa,pc,rfl⟩:=h.props.form;obtain⟨fa,fc,rfl⟩:=h.aJ.form;obtain⟨aa,ac,rfl⟩:=h.ats.form;obtain⟨kd,wd,un⟩:=t;unfold Qj at hk;simp only[Bool.and_eq_true,decide_eq_true_eq]at hk;unfold fB;rcases(show kd=1\/kd=2\/kd=3\/kd=4\/kd=5\/kd=6\/kd=7\/kd=8\/kd=9\/kd=10\/kd=11\/kd=12\/kd=13\/kd=14\/kd=15 by omega)with e|e|e|e|e|e|e|e|e|e|e|e|e|e|e<;>subst e
 .exact alb _ _ _ _ _ _ _ _ _ _ _ _ _ _ _ w
 .exact ala _ _ _ _ _ _ _ _ _ _ _ _ _ _ _ w
 .exact alg _ _ _ _ _ _ _ _ _ _ _ _ _ _ _ w
 .exact alc _ _ _ _ _ _ _ _ _ _ _ _ _ _ _ w
 .exact ald _ _ _ _ _ _ _ _ _ _ _ _ _ _ _ w
 .exact ale _ _ _ _ _ _ _ _ _ _ _ _ _ _ _ w
 .exact alf _ _ _ _ _ _ _ _ _ _ _ _ _ _ _ w
 .exact alh _ _ _ _ _ _ _ _ _ _ _ _ _ _ _ w
 .exact ali _ _ _ _ _ _ _ _ _ _ _ _ _ _ _ w
 .exact ajl _ _ _ _ _ _ _ _ _ _ _ _ _ _ _ w
 .exact ajp B p _ _ _ _ _ _ _ _ _ _ _ _ _ w h.aJ h.lt hw
 .exact ajm _ _ _ _ _ _ _ _ _ _ _ _ _ _ _ w
 .exact ajn _ _ _ _ _ _ _ _ _ _ _ _ _ _ _ w
 .exact ajk _ _ _ _ _ _ _ _ _ _ _ _ _ _ _ w
 .have e:=ajj ⟨15,wd,un⟩ rfl;have e2:oI p ⟨15,wd,un⟩=sgB wd:=by show(!decide (closing ⟨15,wd,un⟩=aA)||vk wd)=_;exact e.symm
  rw[e2];exact ajo _ _ _ _ _ _ _ _ _ _ _ _ _ _ _ w
end
section
attribute [local go_sem] bI bJ aX aY
def Jc(l:List Nd):Prop:=∀(B:Nat) (p:aF) (pv fv av v:Av) (w:WD),jK B w p pv fv av->Sl (fun b=>b<B) w v l->OJ l->Calls prog 117 #[dF p pv fv av,v] w fun e w'=>e=.returned (.bool (eH p l))/\Below w.heap.size w w'
theorem RQ:∀(l:List Nd) (i:Nat),OJ l->OJ (l.drop i)
 |l,0,h=>by simpa using h
 |[],i+1,h=>h
 |n::r,i+1,h=>by simpa using RQ r i (Jb h).2.2
theorem zY(l:List Nd)(hrec:∀n∈l,Jc n.kids):Jc l:=by
 intro B p pv fv av v w hP h hkd;have FU:=h.len;have hB:=hP.lt;have HS:=hid h;have HR:=hid hrec;have HKD:=hid hkd;obtain⟨a,cap,rfl⟩:=h.form;obtain⟨pa,pc,rfl⟩:=hP.props.form;obtain⟨fa,fc,rfl⟩:=hP.aJ.form;obtain⟨aa,ac,rfl⟩:=hP.ats.form;have HP:=hid hP;clear h hrec hkd hP;obtain⟨B0,Q0⟩:=Q6.nb p pa fa aa pc fc ac w;unfold dF;go_in;go_upto_region 1 with fail
 have hsz0:=B0.o.size;have hlt0:=Q0.o.lt;generalize w.alloc (.cells #[.string p.root,.slice pa p.props.length pc,.slice fa p.aJ.length fc,.slice aa p.ats.length ac,.bool p.aU,.bool p.texts] 82)=w0 at *;obtain⟨rb,zV⟩:=Nm w.heap.size;rw[zV.o]at B0 Q0 hB hlt0 hsz0⊢;have wX:=hid (HP.o.below B0.o hB);have HS0:=hid (HS.o.below B0.o hB);clear HP HS;go_wp2_with fail;go_loopg[9] l.length (fun gg v9 wr=>∃i:Nat,v9=.int .i64 (i:Int)/\i+gg=l.length/\Aside (Below w0.heap.size w0 wr/\eH p l=eH p (l.drop i)));case atStart=>exact⟨0,rfl,oo,Ax,by simp⟩
 case round=>
  obtain⟨i,rfl,hi,hA⟩:=hrel;have BR:=hid hA.o.1;have HE:=hid hA.o.2;clear hA;have hsr:=BR.o.size;by_cases hlt:i<l.length
  .have h1:(i:Int)<(l.length:Int):=oo;have S1:=HS0.o.below BR.o oo;obtain⟨g,o,rfl,hL,hcap⟩:=S1.here (by rintro rfl;simp at hlt);obtain⟨kv,hN⟩:=hL.node (i:=i) hlt;obtain⟨n,hn⟩:∃n,n=l[i]:=⟨_,rfl⟩;have HM:Hid (n∈l):=by rw[hn];exact List.getElem_mem _
   have Hdr:Hid (l.drop i=n::l.drop (i+1)):=by show _=_;rw[hn];exact List.drop_eq_getElem_cons hlt
   rw[<-hn]at hN;have HKS:Hid (Qj n.t=true/\OJ n.kids):=by have:=RQ l i HKD.o;rw[Hdr.o]at this;exact⟨(Jb this).1,(Jb this).2.1⟩
   have HE2:Hid (eH p l=(oI p n.t&&eH p n.kids&&eH p (l.drop (i+1)))):=by show _=_;rw[HE.o,Hdr.o,pz]
   have hwd:=hN.ok.word;have HKV:=hid hN.k;obtain⟨ka,kc,rfl⟩:=hN.k.form;have d0:=hN.c0;have d1:=hN.c1;have d2:=hN.c2;have d3:=hN.c3;clear hN hL S1 hn;have A2:Hid (VB (wr.alloc (.cells #[.int .i64 n.t.kind,.string n.t.word,.string n.t.unit,.slice ka n.kids.length kc] 199)) wr.heap.size (.int .i64 n.t.kind) (.string n.t.word) (.string n.t.unit) (.slice ka n.kids.length kc)):=VB.new _ _ _ _ _;have X2:Hid (Below wr.heap.size wr (wr.alloc (.cells #[.int .i64 n.t.kind,.string n.t.word,.string n.t.unit,.slice ka n.kids.length kc] 199))):=Ax.alloc nl _;go_upto_region 4 with fail
   generalize wr.alloc (.cells #[.int .i64 n.t.kind,.string n.t.word,.string n.t.unit,.slice ka n.kids.length kc] 199)=w2 at *;obtain⟨gt,mV⟩:=Nm wr.heap.size;have A3:Hid (VB w2 gt (.int .i64 n.t.kind) (.string n.t.word) (.string n.t.unit) (.slice ka n.kids.length kc)):=by rw[<-mV.o];exact A2.o
   rw[mV.o];clear A2 d0 d1 d2 d3;obtain⟨a0,a1,a2,a3⟩:=A3.o.cs;have B2:=hid (BR.o.trans (X2.o.mono hsr));have hs2:=B2.o.size;have Q2:=Q0.o.below B2.o hlt0;obtain⟨q0,q1,q2,q3,q4,q5⟩:=Q2.cs;clear Q2;have HMB:=agr B p _ _ _ n.t ka n.kids.length kc w2 (wX.o.below B2.o oo) HKS.o.1 hwd;obtain⟨z,Hz⟩:=Nm (oI p n.t);rw[Hz.o]at HMB HE2;unfold dF fB at HMB;have alj:=hid HMB;clear HMB;go_wp2_with fail;refine alj.o.mono ?_;rintro e w3 ⟨rfl,hb3⟩;have B3:=hid (B2.o.trans (hb3.mono hs2))
   have A4:=hid (A3.o.below hb3);have K3:=hid ((HKV.o.below X2.o oo).below hb3 oo);have hs3:=B3.o.size;clear hb3 a0 a1 a2 a3 q0 q1 q2 q3 q4 q5 alj;obtain⟨a0,a1,a2,a3⟩:=A4.o.cs;have Q3':=Q0.o.below B3.o hlt0;obtain⟨q0,q1,q2,q3,q4,q5⟩:=Q3'.cs;clear Q3';cases z
   .have HV:Hid (eH p l=false):=HE2.o;go_wp2_with fail;go_ret;exact⟨aC HV.o.symm,by rw[zV.o];exact B0.o.trans (B3.o.mono hsz0)⟩
   .have HC:=HR.o n HM.o B p (.slice pa p.props.length pc) (.slice fa p.aJ.length fc) (.slice aa p.ats.length ac) (.slice ka n.kids.length kc) w3 (wX.o.below B3.o oo) K3.o HKS.o.2;obtain⟨z2,Hz2⟩:=Nm (eH p n.kids);rw[Hz2.o]at HC HE2;unfold dF at HC;have HC':Hid (Calls prog 117 #[.agg #[.string p.root,.slice pa p.props.length pc,.slice fa p.aJ.length fc,.slice aa p.ats.length ac,.bool p.aU,.bool p.texts],.slice ka n.kids.length kc] w3 fun e w'=>e=.returned (.bool z2)/\Below w3.heap.size w3 w'):=HC;clear HC;go_wp2_with fail;refine HC'.o.mono ?_;rintro e w4 ⟨rfl,hb4⟩;have B4:=hid (B3.o.trans (hb4.mono hs3));clear hb4 HC' a0 a1 a2 a3 q0 q1 q2 q3 q4 q5;cases z2
    .have HV:Hid (eH p l=false):=HE2.o;go_wp2_with fail;go_ret;exact⟨aC HV.o.symm,by rw[zV.o];exact B0.o.trans (B4.o.mono hsz0)⟩
    .have HV:Hid (eH p l=eH p (l.drop (i+1))):=HE2.o;go_wp2_with fail;go_roundg(gk-1);case measure=>omega
     case rel=>exact⟨i+1,by congr 1,oo,B4.o,HV.o⟩
  .have h1:(l.length:Int)<=(i:Int):=oo;have HV:Hid (eH p l=true):=by show _=_;rw[HE.o,List.drop_of_length_le oo];rfl
   go_wp2_with fail;go_ret;exact⟨aC HV.o.symm,by rw[zV.o];exact B0.o.trans (BR.o.mono hsz0)⟩
theorem LH:∀(k:Nat) (l:List Nd),dL l<=k->Jc l:=by
 intro k;induction k with
 |zero=>intro l h;refine zY l fun n hn=>?_;have:=nK l n hn;obtain⟨t,q⟩:=n;unfold Cc at this;omega
 |succ k ih=>intro l h;refine zY l fun n hn=>ih _ ?_;have:=nK l n hn;obtain⟨t,q⟩:=n;unfold Cc at this;show dL q<=k;omega
theorem Dh(l:List Nd):Jc l:=LH _ l nl
end
