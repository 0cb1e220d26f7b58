import Derived.Test.YtlliliddljkbfaaGreatC9
set_option maxHeartbeats 64000000
set_option maxRecDepth 100000
namespace Go.Proofs.YtlliliddljkbfaaGreat
open Go.Proofs.Tryz (prog)
open Go.RowKit Sp
theorem zW(s:BY)(b i:Nat)(w:WD)(h:Sc w b s i):
  Calls prog 292 #[.pointer (some ⟨b,0,none⟩)] w fun e w'=>e=.returned (.tuple #[])/\aB b s (bad s i) w w':=by
 have W:Hid (aB b s i w w):=aB.refl h;clear h;go_in;go_wp2_with fail;refine ji (fun Q' hF=>?_);go_wp2_with fail;go_loopg[] s.size (fun g wr=>∃k:Nat,s.size<=k+g/\Aside (Ed s g k=bad s i/\aB b s k w wr));case atStart=>exact⟨i,oo,rfl,W.o⟩
 case round=>
  obtain⟨k,hk,hA⟩:=hrel;have H1:=hid hA.o.1;have H2:=hid hA.o.2;clear hA;have c02:=H2.o.1.c0;have c12:=H2.o.1.c1;have cf2:=H2.o.1.f1;have cl2:=H2.o.1.lt;have cs2:=H2.o.1.len;have ce2:=H2.o.1.le;by_cases hend:s.size<=k
  .have e0:(pk s k == -1)=true:=by rw[oK hend];rfl
   have HV:Hid (bad s i=k):=by
    show _=_;rw[<-H1.o];cases gk with
    |zero=>rfl
    |succ f=>unfold Ed;rw[if_pos hend]
   go_wp2_with fail;refine cZ (ak s b (k) _ (k) _ (H2.o.1) ⟨oo,oo,oo⟩) fun nq=>?_;go_wp2_with fail;go_step3
   refine hF.go _ _ _ _ rfl ?_;clear hF;go_wp2
   simp only[Exit.noGoto];go_end0
   refine⟨rfl,?_⟩;rw[HV.o];exact H2.o.drewN _
  .have hlt:k<s.size:=oo;have e0:(pk s k == -1)=false:=by have:=tK hlt;simp;omega
   obtain⟨f,rfl⟩:∃f,gk=f+1:=⟨gk-1,oo⟩;have kT:=H1.o;unfold Ed at kT;rw[if_neg hend]at kT;by_cases h41:pk s k=41
   .have e1:(pk s k==41)=true:=by rw[h41];rfl
    have HV:Hid (bad s i=k+1):=by show _=_;rw[<-kT,if_pos h41]
    clear h41 kT;go_wp2_with fail;refine cZ (ak s b (k) _ (k) _ (H2.o.1) ⟨oo,oo,oo⟩) fun nq=>?_;go_wp2_with fail;go_step3
    refine hF.go _ _ _ _ rfl ?_;clear hF;go_wp2
    simp only[Exit.noGoto];go_end0
    refine⟨rfl,?_⟩;rw[HV.o];exact(H2.o.drewN _).iP _ (k+1) oo oo
   .have e1:(pk s k==41)=false:=by simpa using h41
    rw[if_neg h41]at kT;clear h41;cases he:kY s k
    .rw[if_neg (by simp[he])]at kT;have HV:=hid kT;clear kT;go_wp2_with fail;refine cZ (ak s b (k) _ (k) _ (H2.o.1) ⟨oo,oo,oo⟩) fun nq=>?_;go_wp2_with fail;refine cZ (fA s b (k) _ (k) _ (H2.o.1.drewN _) ⟨oo,oo,oo⟩) fun nq=>?_;go_wp2_with fail;go_roundg f;case measure=>omega
     case rel=>exact⟨k+1,oo,HV.o,(H2.o.drewN _).iP _ (k+1) oo oo⟩
    .rw[if_pos he]at kT;have HV:=hid kT;clear kT;have hge:=uX hlt;have hgt:=oL s k;go_wp2_with fail;refine cZ (ak s b (k) _ (k) _ (H2.o.1) ⟨oo,oo,oo⟩) fun nq=>?_;go_wp2_with fail;refine cZ (fA s b (k) _ (k) _ (H2.o.1.drewN _) ⟨oo,oo,oo⟩) fun nq=>?_;go_wp2_with fail;refine pmb (BU s b k _ (H2.o.1.drewN _) hlt) fun w1 aj=>?_;have W1:Hid (aB b s (esc s k).2 w w1):=(H2.o.drewN _).trans aj;clear aj;go_wp2_with fail;go_roundg f;case measure=>omega
     case rel=>exact⟨(esc s k).2,oo,HV.o,W1.o⟩
theorem xX(s:BY)(b i:Nat)(w:WD)(h:Sc w b s i):
  Calls prog 244 #[.pointer (some ⟨b,0,none⟩)] w fun e w'=>e=.returned (.bool (dD (pk s (Sp.blk s i))))/\aB b s i w w':=by
 have W:Hid (aB b s i w w):=aB.refl h;have hbw:=h.lt;have hp:=h.pos;have S:Hid (Sc (w.alloc (.cells #[.string s,.int .i64 (i:Int)] 201 (0,0))) w.heap.size s i):=
  ⟨heap_alloc_new w _,by obtain⟨m,hm⟩:=h.glob;exact⟨m,by rw[<-hm];exact World.cell?_of_block (w:=w) (Below.heap_alloc _ _ _ (by show 0<w.heap.size;omega))⟩,oo,h.len,h.le⟩
 have h0:=h.c0;have h1:=h.c1;clear h;go_in;go_wp2_with fail;refine pmb (lg s w.heap.size i _ S.o) fun w1 aj=>?_;have S1:=hid aj.1;have T1:=hid aj.2;clear aj;go_wp2_with fail;refine cZ (ak s w.heap.size (Sp.blk s i) _ (Sp.blk s i) _ S1.o ⟨oo,oo,oo⟩) fun nq=>?_;go_wp2_with fail;refine jA (fH _ _) ?_;go_wp2_with fail;go_ret;have hb:Below w.heap.size w w1:=((Below.refl _ w).alloc nl _).trans (T1.o.below nl Ab);exact⟨rfl,(W.o.below hb).drewN _⟩
theorem ajg(s:BY)(b i:Nat)(w:WD)(h:Sc w b s i):
  Calls prog 245 #[.pointer (some ⟨b,0,none⟩)] w fun e w'=>e=.returned (bF (link s (Sp.blk s i)).1)/\aB b s (link s (Sp.blk s i)).2 w w':=by
 have W:=aB.nh h;have hbw:b<w.heap.size:=h.lt;have hs:s.size<=600:=h.len;clear h;obtain⟨iS,wK⟩:=info_str;have HI:=hid wK;clear wK;go_in;go_wp2_with fail;refine ji (fun Q' hF=>?_);go_wp2_with fail;refine pmb (lg s b i _ W.o.1) fun w0 aj=>?_;have W0:=hid (W.o.trans aj);have R0:Hid (gX w0 w.heap.size):=(gX.new w).turn aj.2 oo;clear aj;go_wp2_with fail;go_loopg[3] s.size (fun g v3 wr=>∃(v:Av) (k:Nat) (ps:List BY),v=v3/\s.size<=k+g/\ps.length<=k/\total ps<=k/\Aside (jd s g k (aG ps)=link s (Sp.blk s i)/\wr.ownsRow (w.heap.size+1) 9 1 v ps.length (ps.map Value.string)/\aB b s k w wr/\gX wr w.heap.size))
 case atStart=>exact⟨_,Sp.blk s i,[],rfl,oo,by simp,by simp[total],rfl,World.ownsRow_nil _ _ _ _,W0.o,R0.o⟩
 case round=>
  obtain⟨v3,k,ps,rfl,hk,hpl,hpt,hA⟩:=hrel;have H1:=hid hA.o.1;have HO:=hid hA.o.2.1;have H2:=hid hA.o.2.2.1;have HR:=hid hA.o.2.2.2;clear hA;have c02:=H2.o.1.c0;have c12:=H2.o.1.c1;have cf2:=H2.o.1.f1;have cl2:=H2.o.1.lt;have cs2:=H2.o.1.len;have ce2:=H2.o.1.le;by_cases hend:s.size<=k
  .have e0:(pk s k == -1)=true:=by rw[oK hend];rfl
   have HV:Hid (link s (Sp.blk s i)=(Tok.w 12 (aG ps),k)):=by
    show _=_;rw[<-H1.o];cases gk with
    |zero=>rfl
    |succ f=>unfold jd;rw[if_pos hend]
   go_wp2_with fail;refine cZ (ak s b (k) _ (k) _ (H2.o.1) ⟨oo,oo,oo⟩) fun nq=>?_;go_wp2_with fail;go_step3
   refine hF.go _ _ _ _ rfl ?_;clear hF;go_wp2_with fail;refine pmb (dQ ps (w.heap.size+1) v3 _ (bP HO.o _) oo oo) fun w5 hb5=>?_;have W5:Hid (aB b s (k) w w5):=(H2.o.drewN _).below hb5;have R5:Hid (gX w5 w.heap.size):=(HR.o.drewN _).below hb5;clear hb5;have r0:=R5.o.c0;have r1:=R5.o.c1;have r2:=R5.o.c2;have rf:=R5.o.f;have rl:=R5.o.lt;go_wp2_with fail;try rw[Exit.noGoto_ret]
   refine bodyPost_ret (v:=bF (Tok.w 12 (aG ps))) (by simp[results,Tryz.results245,go_sem,bF,Tok.w,r0,r1,r2];rfl) rfl ⟨?_,?_⟩
   .rw[HV.o]
   .rw[HV.o];exact((W5.o.cu hbw nl _ _).cu hbw nl _ _).cu hbw nl _ _
  .have hlt:k<s.size:=oo;have e0:(pk s k == -1)=false:=by have:=tK hlt;simp;omega
   obtain⟨f,rfl⟩:∃f,gk=f+1:=⟨gk-1,oo⟩;have kT:=H1.o;unfold jd at kT;rw[if_neg hend]at kT;by_cases h41:pk s k=41
   .have e1:(pk s k==41)=true:=by rw[h41];rfl
    have HV:Hid (link s (Sp.blk s i)=(Tok.w 12 (aG ps),k+1)):=by show _=_;rw[<-kT,if_pos h41]
    clear h41 kT;go_wp2_with fail;refine cZ (ak s b (k) _ (k) _ (H2.o.1) ⟨oo,oo,oo⟩) fun nq=>?_;go_wp2_with fail;go_step3
    refine hF.go _ _ _ _ rfl ?_;clear hF;go_wp2_with fail;refine pmb (dQ ps (w.heap.size+1) v3 _ (eF (bP HO.o _) ((Turn.refl b _).setCell 1 _) oo) oo oo) fun w5 hb5=>?_;have W5:Hid (aB b s (k+1) w w5):=((H2.o.drewN _).iP _ (k+1) oo oo).below hb5;have R5:Hid (gX w5 w.heap.size):=((HR.o.drewN _).set oo _).below hb5;clear hb5;have r0:=R5.o.c0;have r1:=R5.o.c1;have r2:=R5.o.c2;have rf:=R5.o.f;have rl:=R5.o.lt;go_wp2_with fail;try rw[Exit.noGoto_ret]
    refine bodyPost_ret (v:=bF (Tok.w 12 (aG ps))) (by simp[results,Tryz.results245,go_sem,bF,Tok.w,r0,r1,r2];rfl) rfl ⟨?_,?_⟩
    .rw[HV.o]
    .rw[HV.o];exact((W5.o.cu hbw nl _ _).cu hbw nl _ _).cu hbw nl _ _
   .have e1:(pk s k==41)=false:=by simpa using h41
    rw[if_neg h41]at kT;clear h41;cases hbl:aO (pk s k)
    .rw[if_neg (by simp[hbl])]at kT;cases he:kY s k
     .rw[if_neg (by simp[he])]at kT;cases hsp:Eb (pk s k)
      .rw[if_neg (by simp[hsp])]at kT;have HV:Hid (jd s f (k+1) (aG (ps++[one s k]))=link s (Sp.blk s i)):=by show _=_;rw[dw];exact kT
       have hsz:Hid ((one s k).size=1):=iQ hlt;clear kT;go_wp2_with fail;refine cZ (ak s b (k) _ (k) _ (H2.o.1) ⟨oo,oo,oo⟩) fun nq=>?_;go_wp2_with fail;refine jA (aW _ _) ?_;go_wp2_with fail;refine cZ (fA s b (k) _ (k) _ (H2.o.1.drewN _) ⟨oo,oo,oo⟩) fun nq=>?_;go_wp2_with fail;refine jA (BI _ _) ?_;go_wp2_with fail;refine pmb (Ap s b k _ (H2.o.1.drewN _) hlt) fun w1 aj=>?_;have W1:Hid (aB b s (k+1) w w1):=(H2.o.drewN _).trans aj;have uS:Hid (w1.ownsRow (w.heap.size+1) 9 1 v3 ps.length (ps.map Value.string)):=eF (bP HO.o _) aj.2 oo;have R1:Hid (gX w1 w.heap.size):=(HR.o.drewN _).turn aj.2 oo;clear aj;have hw1:=W1.o.2.size;have hw2:=R1.o.lt
       go_wp2_with(at_builtin;refine wpList_append_own _ rfl _ _ 26 rfl (w.heap.size+1) 9 iS (.string ⟨#[]⟩) 1 16 Tryz.underlying26 HI.o.1 HI.o.2.1 HI.o.2.2.1 HI.o.2.2.2 rfl oo v3 ps.length (ps.map Value.string) rfl (uS.o.alloc _) ⟨w1.heap.size,0,none⟩ 1 1 [.string (one s k)] rfl rfl (cell_one_new _ _ _) (aT _) ?_ ?_ ?_ ?_)
       .unfold maxLen;omega
       .omega
       .simp;omega
       intro v4 w2 hown2 jk _;have W2:Hid (aB b s (k+1) w w2):=(W1.o.alloc _).grown jk hbw (fun r hr=>by have:=(uS.o.lt r hr).1;omega);have FW:=hid hown2;have R2:Hid (gX w2 w.heap.size):=(R1.o.alloc _).grown jk (fun r hr=>by have:=(uS.o.lt r hr).1;omega);clear hown2 jk;go_wp2_with fail;go_roundg f;case measure=>omega
       case rel=>
        refine⟨v4,k+1,ps++[one s k],rfl,oo,by simp;omega,?_,HV.o,?_,W2.o,R2.o⟩
        .have:=hsz.o;simp[dh,total,this];omega
        .simpa using FW.o
      .rw[if_pos hsp]at kT;have HV:=hid kT.symm;clear kT;go_wp2_with fail;refine cZ (ak s b (k) _ (k) _ (H2.o.1) ⟨oo,oo,oo⟩) fun nq=>?_;go_wp2_with fail;refine jA (aW _ _) ?_;go_wp2_with fail;refine cZ (fA s b (k) _ (k) _ (H2.o.1.drewN _) ⟨oo,oo,oo⟩) fun nq=>?_;go_wp2_with fail;refine jA (BI _ _) ?_;go_wp2_with fail;go_step3
       refine hF.go _ _ _ _ rfl ?_;clear hF;go_wp2_with fail;refine pmb (zW s b (k) _ ((H2.o.drewN _)).1) fun w5 aj=>?_;have W5:Hid (aB b s (bad s (k)) w w5):=((H2.o.drewN _)).trans aj;have R5:Hid (gX w5 w.heap.size):=((HR.o.drewN _)).turn aj.2 oo;clear aj;have r0:=R5.o.c0;have r1:=R5.o.c1;have r2:=R5.o.c2;have rf:=R5.o.f;have rl:=R5.o.lt;go_wp2_with fail;try rw[Exit.noGoto_ret]
       refine bodyPost_ret (v:=bF (Tok.k 13)) (by simp[results,Tryz.results245,go_sem,bF,Tok.k,r0,r1,r2];rfl) rfl ⟨?_,?_⟩
       .rw[HV.o]
       .rw[HV.o];exact((W5.o.cu hbw nl _ _).cu hbw nl _ _).cu hbw nl _ _
     .rw[if_pos he]at kT;have hge:=uX hlt;have hgt:=oL s k;have HV:Hid (jd s f (esc s k).2 (aG (ps++[(esc s k).1]))=link s (Sp.blk s i)):=by show _=_;rw[dw];exact kT
      have hsz:Hid ((esc s k).1.size=1):=kN;clear kT;go_wp2_with fail;refine cZ (ak s b (k) _ (k) _ (H2.o.1) ⟨oo,oo,oo⟩) fun nq=>?_;go_wp2_with fail;refine jA (aW _ _) ?_;go_wp2_with fail;refine cZ (fA s b (k) _ (k) _ (H2.o.1.drewN _) ⟨oo,oo,oo⟩) fun nq=>?_;go_wp2_with fail;refine pmb (BU s b k _ (H2.o.1.drewN _) hlt) fun w1 aj=>?_;have W1:Hid (aB b s ((esc s k).2) w w1):=(H2.o.drewN _).trans aj;have uS:Hid (w1.ownsRow (w.heap.size+1) 9 1 v3 ps.length (ps.map Value.string)):=eF (bP HO.o _) aj.2 oo;have R1:Hid (gX w1 w.heap.size):=(HR.o.drewN _).turn aj.2 oo;clear aj;have hw1:=W1.o.2.size;have hw2:=R1.o.lt
      go_wp2_with(at_builtin;refine wpList_append_own _ rfl _ _ 26 rfl (w.heap.size+1) 9 iS (.string ⟨#[]⟩) 1 16 Tryz.underlying26 HI.o.1 HI.o.2.1 HI.o.2.2.1 HI.o.2.2.2 rfl oo v3 ps.length (ps.map Value.string) rfl (uS.o.alloc _) ⟨w1.heap.size,0,none⟩ 1 1 [.string ((esc s k).1)] rfl rfl (cell_one_new _ _ _) (aT _) ?_ ?_ ?_ ?_)
      .unfold maxLen;omega
      .omega
      .simp;omega
      intro v4 w2 hown2 jk _;have W2:Hid (aB b s ((esc s k).2) w w2):=(W1.o.alloc _).grown jk hbw (fun r hr=>by have:=(uS.o.lt r hr).1;omega);have FW:=hid hown2;have R2:Hid (gX w2 w.heap.size):=(R1.o.alloc _).grown jk (fun r hr=>by have:=(uS.o.lt r hr).1;omega);clear hown2 jk;go_wp2_with fail;go_roundg f;case measure=>omega
      case rel=>
       refine⟨v4,(esc s k).2,ps++[(esc s k).1],rfl,oo,by simp;omega,?_,HV.o,?_,W2.o,R2.o⟩
       .have:=hsz.o;simp[dh,total,this];omega
       .simpa using FW.o
    .rw[if_pos hbl]at kT;have hbg:=Vp hbl;have ajh:=Oh (s:=s) (i:=k) oo;generalize hkb:Sp.blk s k=kb at *;have HKB:=hid hkb;clear hkb;by_cases hbe:s.size<=kb
     .have hnone:(pk s kb != -1)=false:=by rw[oK hbe];rfl
      have ak8:(pk s kb != 41)=true:=by rw[oK hbe];rfl
      rw[if_pos hbe]at kT;have HV:Hid (jd s f kb (aG ps)=link s (Sp.blk s i)):=by
       show _=_;rw[<-kT];cases f with
       |zero=>rfl
       |succ f'=>unfold jd;rw[if_pos hbe]
      clear kT;go_wp2_with fail;refine cZ (ak s b (k) _ (k) _ (H2.o.1) ⟨oo,oo,oo⟩) fun nq=>?_;go_wp2_with fail;refine jA (aW _ _) ?_;go_wp2_with fail;refine pmb (lg s b k _ (H2.o.1.drewN _)) fun w1 aj=>?_;have W1:Hid (aB b s kb w w1):=by have:=(H2.o.drewN _).trans aj;rw[HKB.o]at this;exact this
      have uS:Hid (w1.ownsRow (w.heap.size+1) 9 1 v3 ps.length (ps.map Value.string)):=eF (bP HO.o _) aj.2 oo;have R1:Hid (gX w1 w.heap.size):=(HR.o.drewN _).turn aj.2 oo;clear aj;go_wp2_with fail;refine cZ (ak s b (kb) _ (kb) _ (W1.o.1) ⟨oo,oo,oo⟩) fun nq=>?_;go_wp2_with fail;refine cZ (ak s b (kb) _ (kb) _ (W1.o.1.drewN _) ⟨oo,oo,oo⟩) fun nq=>?_;go_wp2_with fail;go_roundg f;case measure=>omega
      case rel=>exact⟨v3,kb,ps,rfl,oo,oo,oo,HV.o,bP uS.o _,W1.o.drewN _,R1.o.drewN _⟩
     .have hlb:kb<s.size:=oo;have hnone:(pk s kb != -1)=true:=by have:=tK hlb;simp;omega
      rw[if_neg hbe]at kT;by_cases V7:pk s kb=41
      .have ak8:(pk s kb != 41)=false:=by rw[V7];rfl
       rw[if_pos V7]at kT;have HV:Hid (jd s f kb (aG ps)=link s (Sp.blk s i)):=by show _=_;rw[<-kT];obtain⟨f',rfl⟩:∃f',f=f'+1:=⟨f-1,oo⟩;unfold jd;rw[if_neg hbe,if_pos V7]
       clear kT V7;go_wp2_with fail;refine cZ (ak s b (k) _ (k) _ (H2.o.1) ⟨oo,oo,oo⟩) fun nq=>?_;go_wp2_with fail;refine jA (aW _ _) ?_;go_wp2_with fail;refine pmb (lg s b k _ (H2.o.1.drewN _)) fun w1 aj=>?_;have W1:Hid (aB b s kb w w1):=by have:=(H2.o.drewN _).trans aj;rw[HKB.o]at this;exact this
       have uS:Hid (w1.ownsRow (w.heap.size+1) 9 1 v3 ps.length (ps.map Value.string)):=eF (bP HO.o _) aj.2 oo;have R1:Hid (gX w1 w.heap.size):=(HR.o.drewN _).turn aj.2 oo;clear aj;go_wp2_with fail;refine cZ (ak s b (kb) _ (kb) _ (W1.o.1) ⟨oo,oo,oo⟩) fun nq=>?_;go_wp2_with fail;go_roundg f;case measure=>omega
       case rel=>exact⟨v3,kb,ps,rfl,oo,oo,oo,HV.o,bP uS.o _,W1.o.drewN _,R1.o.drewN _⟩
      .have ak8:(pk s kb != 41)=true:=by simpa using V7
       rw[if_neg V7]at kT;have HV:=hid kT.symm;clear kT V7;go_wp2_with fail;refine cZ (ak s b (k) _ (k) _ (H2.o.1) ⟨oo,oo,oo⟩) fun nq=>?_;go_wp2_with fail;refine jA (aW _ _) ?_;go_wp2_with fail;refine pmb (lg s b k _ (H2.o.1.drewN _)) fun w1 aj=>?_;have W1:Hid (aB b s kb w w1):=by have:=(H2.o.drewN _).trans aj;rw[HKB.o]at this;exact this
       have uS:Hid (w1.ownsRow (w.heap.size+1) 9 1 v3 ps.length (ps.map Value.string)):=eF (bP HO.o _) aj.2 oo;have R1:Hid (gX w1 w.heap.size):=(HR.o.drewN _).turn aj.2 oo;clear aj;go_wp2_with fail;refine cZ (ak s b (kb) _ (kb) _ (W1.o.1) ⟨oo,oo,oo⟩) fun nq=>?_;go_wp2_with fail;refine cZ (ak s b (kb) _ (kb) _ (W1.o.1.drewN _) ⟨oo,oo,oo⟩) fun nq=>?_;go_wp2_with fail;go_step3
       refine hF.go _ _ _ _ rfl ?_;clear hF;go_wp2_with fail;refine pmb (zW s b (kb) _ ((W1.o.drewN _)).1) fun w5 aj=>?_;have W5:Hid (aB b s (bad s (kb)) w w5):=((W1.o.drewN _)).trans aj;have R5:Hid (gX w5 w.heap.size):=((R1.o.drewN _)).turn aj.2 oo;clear aj;have r0:=R5.o.c0;have r1:=R5.o.c1;have r2:=R5.o.c2;have rf:=R5.o.f;have rl:=R5.o.lt;go_wp2_with fail;try rw[Exit.noGoto_ret]
       refine bodyPost_ret (v:=bF (Tok.k 13)) (by simp[results,Tryz.results245,go_sem,bF,Tok.k,r0,r1,r2];rfl) rfl ⟨?_,?_⟩
       .rw[HV.o]
       .rw[HV.o];exact((W5.o.cu hbw nl _ _).cu hbw nl _ _).cu hbw nl _ _
theorem AP(s:BY):∀f i acc,i<=s.size->(iK s f i acc).1.size+i<=acc.size+(iK s f i acc).2
 |0,i,acc,h=>Nat.le_refl _
 |f+1,i,acc,h=>by
  unfold iK;split
  .rename_i h1;have hl:=dY (uV h1);have:=AP s f (i+1) (acc++one s i) oo;have h2:=iQ hl;rw[ByteArray.size_append,h2]at this;omega
  .split
   .rename_i h1;have hl:=Oc h1;have:=AP s f (esc s i).2 (acc++(esc s i).1) (uX hl);have h2:=kN (s:=s) (i:=i);have h3:=oL s i;rw[ByteArray.size_append,h2]at this;omega
   .exact Nat.le_refl _
theorem aat{s:BY}{i:Nat}(h:i<=s.size):(name s i).1.size<=s.size:=by have h1:=AP s s.size i ByteArray.empty h;have h2:=yV h;have h3:ByteArray.empty.size=0:=rfl;unfold name at h2⊢;omega
theorem Nj(x:BY):(x.toList==[117,114,108])=decide (x=url):=by
 rw[Bool.eq_iff_iff];simp only[beq_iff_eq,decide_eq_true_eq];rw[ByteArray.toList_eq];constructor
 .intro h;obtain⟨⟨l⟩⟩:=x;simp only at h;rw[h];rfl
 .intro h;rw[h];rfl
theorem OE(s:BY)(b i:Nat)(w:WD)(h:Sc w b s i):
  Calls prog 184 #[.pointer (some ⟨b,0,none⟩)] w fun e w'=>e=.returned (bF (named s i).1)/\aB b s (named s i).2 w w':=by
 have W:=aB.nh h;have R:=gX.nh w;have hbw:b<w.heap.size:=h.lt;have hs:s.size<=600:=h.len;clear h;have hns:=aat W.o.1.le;have hnl:=yV W.o.1.le;obtain⟨x,k,HX⟩:∃x k,Hid (name s i=(x,k)):=⟨_,_,rfl⟩;have ano:x.size<=s.size:=by have:=HX.o;rw[this]at hns;exact hns
 have anp:k<=s.size:=by have:=HX.o;rw[this]at hnl;exact hnl
 clear hns hnl;by_cases Gt:pk s k=40
 .have e0:(pk s k != 40)=false:=by rw[Gt];rfl
  have hlt:k<s.size:=dY oo;by_cases hu:small x=url
  .have eu:((small x).toList==[117,114,108])=true:=by rw[Nj];simp[hu]
   cases hq:dD (pk s (Sp.blk s (k+1)))
   .have HV:Hid (named s i=link s (Sp.blk s (k+1))):=by
     show _=_;unfold named;rw[HX.o];dsimp only;rw[if_pos Gt,if_pos ⟨hu,hq⟩]
    clear Gt hu;go_in;go_wp2_with fail;refine(Ar s b i _ W.o.1).mono ?_;rw[HX.o];rintro e w1 ⟨rfl,aj⟩;have W1:=hid (W.o.trans aj);have R1:=hid (R.o.turn aj.2 oo);clear aj;have c01:=W1.o.1.c0;have c11:=W1.o.1.c1;have cf1:=W1.o.1.f1;have cl1:=W1.o.1.lt;have cs1:=W1.o.1.len;have ce1:=W1.o.1.le;go_wp2_with fail;refine cZ (ak s b (k) _ (k) _ (W1.o.1) ⟨oo,oo,oo⟩) fun nq=>?_;go_wp2_with fail;refine pmb (nH x _ oo) fun w2 hb2=>?_;have W2:Hid (aB b s (k+1) w w2):=((W1.o.drewN _).iP _ (k+1) oo oo).below hb2;have R2:Hid (gX w2 w.heap.size):=((R1.o.drewN _).set oo _).below hb2;clear hb2;go_wp2_with fail;refine pmb (xX s b (k+1) _ W2.o.1) fun w3 aj=>?_;have W3:=hid (W2.o.trans aj)
    have R3:=hid (R2.o.turn aj.2 oo);clear aj;go_wp2_with fail;refine pmb (ajg s b (k+1) _ W3.o.1) fun w4 aj=>?_;have W4:=hid (W3.o.trans aj);have R4:=hid (R3.o.turn aj.2 oo);clear aj;have r0:=R4.o.c0;have r1:=R4.o.c1;have r2:=R4.o.c2;have rf:=R4.o.f;have rl:=R4.o.lt;unfold bF;go_wp2_with fail;refine bodyPost_ret (v:=bF (link s (Sp.blk s (k+1))).1) (by simp[results,Tryz.results184,go_sem,bF,r0,r1,r2]) rfl ⟨?_,?_⟩
    .rw[HV.o]
    .rw[HV.o];exact((W4.o.cu hbw nl _ _).cu hbw nl _ _).cu hbw nl _ _
   .have HV:Hid (named s i=(Tok.w 11 x,k+1)):=by
     show _=_;unfold named;rw[HX.o];dsimp only;rw[if_pos Gt,if_neg (by simp[hq])]
    clear Gt hu;go_in;go_wp2_with fail;refine(Ar s b i _ W.o.1).mono ?_;rw[HX.o];rintro e w1 ⟨rfl,aj⟩;have W1:=hid (W.o.trans aj);have R1:=hid (R.o.turn aj.2 oo);clear aj;have c01:=W1.o.1.c0;have c11:=W1.o.1.c1;have cf1:=W1.o.1.f1;have cl1:=W1.o.1.lt;have cs1:=W1.o.1.len;have ce1:=W1.o.1.le;go_wp2_with fail;refine cZ (ak s b (k) _ (k) _ (W1.o.1) ⟨oo,oo,oo⟩) fun nq=>?_;go_wp2_with fail;refine pmb (nH x _ oo) fun w2 hb2=>?_;have W2:Hid (aB b s (k+1) w w2):=((W1.o.drewN _).iP _ (k+1) oo oo).below hb2;have R2:Hid (gX w2 w.heap.size):=((R1.o.drewN _).set oo _).below hb2;clear hb2;go_wp2_with fail;refine pmb (xX s b (k+1) _ W2.o.1) fun w3 aj=>?_;have W3:=hid (W2.o.trans aj)
    have R3:=hid (R2.o.turn aj.2 oo);clear aj;have r0:=R3.o.c0;have r1:=R3.o.c1;have r2:=R3.o.c2;have rf:=R3.o.f;have rl:=R3.o.lt;go_wp2_with fail;refine bodyPost_ret (v:=bF (Tok.w 11 x)) (by simp[results,Tryz.results184,go_sem,bF,Tok.w,r0,r1,r2];rfl) rfl ⟨?_,?_⟩
    .rw[HV.o]
    .rw[HV.o];exact((W3.o.cu hbw nl _ _).cu hbw nl _ _).cu hbw nl _ _
  .have eu:((small x).toList==[117,114,108])=false:=by rw[Nj];simp[hu]
   have HV:Hid (named s i=(Tok.w 11 x,k+1)):=by show _=_;unfold named;rw[HX.o];dsimp only;rw[if_pos Gt,if_neg (by simp[hu])]
   clear Gt hu;go_in;go_wp2_with fail;refine(Ar s b i _ W.o.1).mono ?_;rw[HX.o];rintro e w1 ⟨rfl,aj⟩;have W1:=hid (W.o.trans aj);have R1:=hid (R.o.turn aj.2 oo);clear aj;have c01:=W1.o.1.c0;have c11:=W1.o.1.c1;have cf1:=W1.o.1.f1;have cl1:=W1.o.1.lt;have cs1:=W1.o.1.len;have ce1:=W1.o.1.le;go_wp2_with fail;refine cZ (ak s b (k) _ (k) _ (W1.o.1) ⟨oo,oo,oo⟩) fun nq=>?_;go_wp2_with fail;refine pmb (nH x _ oo) fun w2 hb2=>?_;have W2:Hid (aB b s (k+1) w w2):=((W1.o.drewN _).iP _ (k+1) oo oo).below hb2;have R2:Hid (gX w2 w.heap.size):=((R1.o.drewN _).set oo _).below hb2;clear hb2;have r0:=R2.o.c0;have r1:=R2.o.c1;have r2:=R2.o.c2;have rf:=R2.o.f;have rl:=R2.o.lt;go_wp2_with fail
   refine bodyPost_ret (v:=bF (Tok.w 11 x)) (by simp[results,Tryz.results184,go_sem,bF,Tok.w,r0,r1,r2];rfl) rfl ⟨?_,?_⟩
   .rw[HV.o]
   .rw[HV.o];exact((W2.o.cu hbw nl _ _).cu hbw nl _ _).cu hbw nl _ _
 .have e0:(pk s k != 40)=true:=by simpa using Gt
  have HV:Hid (named s i=(Tok.w 14 x,k)):=by show _=_;unfold named;rw[HX.o];dsimp only;rw[if_neg Gt]
  clear Gt;go_in;go_wp2_with fail;refine(Ar s b i _ W.o.1).mono ?_;rw[HX.o];rintro e w1 ⟨rfl,aj⟩;have W1:=hid (W.o.trans aj);have R1:=hid (R.o.turn aj.2 oo);clear aj;have c01:=W1.o.1.c0;have c11:=W1.o.1.c1;have cf1:=W1.o.1.f1;have cl1:=W1.o.1.lt;have cs1:=W1.o.1.len;have ce1:=W1.o.1.le;go_wp2_with fail;refine cZ (ak s b (k) _ (k) _ (W1.o.1) ⟨oo,oo,oo⟩) fun nq=>?_;have r0:=R1.o.c0;have r1:=R1.o.c1;have r2:=R1.o.c2;have rf:=R1.o.f;have rl:=R1.o.lt;go_wp2_with fail;refine bodyPost_ret (v:=bF (Tok.w 14 x)) (by simp[results,Tryz.results184,go_sem,bF,Tok.w,r0,r1,r2];rfl) rfl ⟨?_,?_⟩
  .rw[HV.o]
  .rw[HV.o];exact(((W1.o.drewN _).cu hbw nl _ _).cu hbw nl _ _).cu hbw nl _ _
theorem xY(s:BY)(b i:Nat)(t:BY)(w:WD)(h:Sc w b s i):
  Calls prog 173 #[.pointer (some ⟨b,0,none⟩),.string t] w fun e w'=>e=.returned (.bool (pre s i t.data.toList))/\∃n,w'=w.drewN n:=by
 have h0:=h.c0;have h1:=h.c1;have hs:=h.len;have hi:=h.le;clear h;rw[<-afT];go_in;go_wp2_with fail;go_quiet ((go_at_call 105;exact Calls.quiet_of_same (Tryz.strings_HasPrefix _ _ _)))
 go_wp2_with fail;go_ret;exact⟨rfl,_,rfl⟩
theorem YI(s:BY)(l:Int)(k:Nat)(hl:l=k)(h:k<=s.size)(w:WD):(Instr.slice 9 (.string s) (some (.int .i64 l)) none none).run prog w=.ok (.string (s.extract k s.size)) w:=by subst hl;have:=run_slice_string_l (P:=prog) (w:=w) (t:=9) (s:=s) (ht:=Tryz.underlying9) .i64 (k:Int) oo oo;simpa using this
theorem aau(s:BY)(k:Nat)(m:Int)(w:WD)(h6:s.size<=600)(hk:k<=s.size)(hst:s.size<=star s k)(hm:w.cell? ⟨0,0,none⟩=some (.int .i64 m)):
  Calls prog 174 #[.string (s.extract k s.size),.string ⟨#[42,47]⟩] w fun e w'=>e=.returned (.int .i64 (-1))/\w'=w:=by
 refine(Tryz.strings_Index _ _ m w An hm).mono ?_;rintro e w' ⟨rfl,rfl⟩;exact⟨aiO (Ib hk hst),rfl⟩
theorem acR(s:BY)(k:Nat)(m:Int)(w:WD)(h6:s.size<=600)(hk:k<=s.size)(hst:star s k<s.size)(hm:w.cell? ⟨0,0,none⟩=some (.int .i64 m)):
  Calls prog 174 #[.string (s.extract k s.size),.string ⟨#[42,47]⟩] w fun e w'=>e=.returned (.int .i64 ((star s k-k:Nat):Int))/\w'=w:=by
 refine(Tryz.strings_Index _ _ m w An hm).mono ?_;rintro e w' ⟨rfl,rfl⟩;exact⟨aiO (by rw[show(⟨#[42,47]⟩:BY).data.toList=[42,47] from rfl,KW hk hst];have:=Ol s k;omega),rfl⟩
theorem RD(s:BY)(i:Nat):pre s i [47,42]=(pk s i==47&&pk s (i+1)==42):=by simp[pre]
theorem IV(s:BY)(b i:Nat)(w:WD)(h:Sc w b s i):
  Calls prog 112 #[.pointer (some ⟨b,0,none⟩)] w fun e w'=>e=.returned (.tuple #[])/\aB b s (com s i) w w':=by
 have W:Hid (aB b s i w w):=aB.refl h;clear h;go_in;go_wp2_with fail;refine ji (fun Q' hF=>?_);go_wp2_with fail;go_loopg[] s.size (fun g wr=>∃k:Nat,s.size<=k+g/\Aside (Bv s g k=com s i/\aB b s k w wr));case atStart=>exact⟨i,oo,rfl,W.o⟩
 case round=>
  obtain⟨k,hk,hA⟩:=hrel;have H1:=hid hA.o.1;have H2:=hid hA.o.2;clear hA;have c02:=H2.o.1.c0;have c12:=H2.o.1.c1;have cf2:=H2.o.1.f1;have cl2:=H2.o.1.lt;have cs2:=H2.o.1.len;have ce2:=H2.o.1.le;cases hpre:pre s k [47,42]
  .have HV:Hid (com s i=k):=by
    show _=_;rw[RD]at hpre;rw[<-H1.o];cases gk with
    |zero=>rfl
    |succ f=>unfold Bv;rw[if_neg (fun h=>by simp[h]at hpre)]
   go_wp2_with fail;refine cZ (xY s b k _ _ H2.o.1) fun nq=>?_;go_wp2_with fail;go_step3
   refine hF.norm _ _ ?_;go_end0
   refine⟨rfl,?_⟩;rw[HV.o];exact H2.o.drewN _
  .have ho:pk s k=47/\pk s (k+1)=42:=by rw[RD]at hpre;simpa using hpre
   have hlt:k+1<s.size:=dY oo;have hge:=Ol s (k+2);have hle:=afL (s:=s) (k:=k+2) oo;obtain⟨f,rfl⟩:∃f,gk=f+1:=⟨gk-1,oo⟩;have kT:=H1.o;unfold Bv at kT;rw[if_pos ho]at kT;clear ho;by_cases hst:s.size<=star s (k+2)
   .rw[if_pos hst]at kT;have HV:=hid kT.symm;clear kT;go_wp2_with fail;refine(xY s b k _ _ H2.o.1).mono ?_;rintro e wq ⟨rfl,nq,hwq⟩;have W1:Hid (aB b s k w wq):=by show aB b s k w wq;rw[hwq];exact H2.o.drewN nq
    clear hwq;have c03:=W1.o.1.c0;have c13:=W1.o.1.c1;have cf3:=W1.o.1.f1;have cl3:=W1.o.1.lt;have cs3:=W1.o.1.len;have ce3:=W1.o.1.le;go_wp2_with fail;obtain⟨m,hm⟩:=W1.o.1.glob;have hw2:IntKind.i64.wrap ((k:Int)+2)=(k:Int)+2:=by rw[IntKind.wrap_i64];omega
    have hsl:=YI s ((k:Int)+2) (k+2) oo oo;go_quiet ((go_at_call 174;exact Calls.quiet_of_same (aau s (k+2) m _ oo oo hst hm)))
    go_wp2_with fail;go_step3
    refine hF.go _ _ _ _ rfl ?_;clear hF;go_wp2
    simp only[Exit.noGoto];go_end0
    refine⟨rfl,?_⟩;rw[HV.o];exact(W1.o.drewN _).iP _ s.size rfl nl
   .have hst':star s (k+2)<s.size:=oo;have hle2:=GZ hst';rw[if_neg hst]at kT;have HV:=hid kT;clear kT;go_wp2_with fail;refine(xY s b k _ _ H2.o.1).mono ?_;rintro e wq ⟨rfl,nq,hwq⟩;have W1:Hid (aB b s k w wq):=by show aB b s k w wq;rw[hwq];exact H2.o.drewN nq
    clear hwq;have c03:=W1.o.1.c0;have c13:=W1.o.1.c1;have cf3:=W1.o.1.f1;have cl3:=W1.o.1.lt;have cs3:=W1.o.1.len;have ce3:=W1.o.1.le;go_wp2_with fail;obtain⟨m,hm⟩:=W1.o.1.glob;have hw2:IntKind.i64.wrap ((k:Int)+2)=(k:Int)+2:=by rw[IntKind.wrap_i64];omega
    have hsl:=YI s ((k:Int)+2) (k+2) oo oo;go_quiet ((go_at_call 174;exact Calls.quiet_of_same (acR s (k+2) m _ oo oo hst' hm)))
    generalize hd:star s (k+2)-(k+2)=d;have hd1:star s (k+2)=k+2+d:=oo;have HD:=hid hd1;have hd2:k+2+d+2<=s.size:=oo;clear hd hd1 hst hst' hge hle hle2;go_wp2_with fail;go_roundg f;case measure=>omega
    case rel=>refine⟨k+2+d+2,oo,?_,(W1.o.drewN _).iP _ (k+2+d+2) oo oo⟩;rw[<-HD.o];exact HV.o
