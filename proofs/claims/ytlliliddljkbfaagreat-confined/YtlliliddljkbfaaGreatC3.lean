import Derived.Test.YtlliliddljkbfaaGreatC2
set_option maxHeartbeats 64000000
set_option maxRecDepth 100000
namespace Go.Proofs.YtlliliddljkbfaaGreat
open Go
def akK(P:Program)(c:Code)(Q:Exit->Act->World->Prop):Exit->Act->World->Prop
 |.goto l,a,w=>∃rest,findLabel c l=some rest/\rest.wp P (Exit.noGoto Q) a w
 |e,a,w=>Q e a w
structure Fwd(P:Program)(c:Code)(Q Q':Exit->Act->World->Prop):Prop where
 go:∀l rest a w,findLabel c l=some rest->rest.wp P (Exit.noGoto Q) a w->Q' (.goto l) a w
 norm:∀a w,Q .normal a w->Q' .normal a w
 ret:∀a w,Q .ret a w->Q' .ret a w
 any:∀e a w,Exit.noGoto Q e a w->Q' e a w
theorem ji{P:Program}{c:Code}{Q:Exit->Act->World->Prop}{a:Act}{w:World}
  (h:∀Q':Exit->Act->World->Prop,Fwd P c Q Q'->c.wp P Q' a w):(Code.scope c).wp P Q a w:=by
 have h':=h (akK P c Q) ⟨fun l rest a w hf hr=>⟨rest,hf,hr⟩,fun a w hq=>hq,fun a w hq=>hq,fun e a w hq=>by cases e<;>first|exact hq|exact hq.elim⟩;intro b k cs;obtain⟨e,a₁,w₁,hq,harr⟩:=h' b (.inScope c::k) cs;cases e with
 |normal=>exact⟨.normal,a₁,w₁,hq,.head step_scope (Steps.trans harr (.one step_inScope))⟩
 |exit id=>exact⟨.exit id,a₁,w₁,hq,fun k' hk=>.head step_scope (harr k' (by simp[exitTo,hk]))⟩
 |goto l=>
  obtain⟨rest,hf,hr⟩:=hq;have hg:gotoIn l (.inScope c::k)=some (.code rest :: .inScope c::k):=by simp[gotoIn,hf]
  obtain⟨e₂,a₂,w₂,hq₂,harr₂⟩:=hr b (.inScope c::k) cs;have hs:=Steps.head (P:=P) step_scope (harr _ hg);cases e₂ with
  |normal=>exact⟨.normal,a₂,w₂,hq₂,Steps.trans hs (Steps.trans harr₂ (.one step_inScope))⟩
  |exit id=>exact⟨.exit id,a₂,w₂,hq₂,fun k' hk=>Steps.trans hs (harr₂ k' (by simp[exitTo,hk]))⟩
  |goto l'=>exact hq₂.elim
  |ret=>exact⟨_,a₂,w₂,hq₂,.of_steps hs harr₂⟩
  |panic ch=>exact⟨_,a₂,w₂,hq₂,.of_steps hs harr₂⟩
  |outgrown=>exact⟨_,a₂,w₂,hq₂,.of_steps hs harr₂⟩
 |ret=>exact⟨_,a₁,w₁,hq,.of_steps (.one step_scope) harr⟩
 |panic ch=>exact⟨_,a₁,w₁,hq,.of_steps (.one step_scope) harr⟩
 |outgrown=>exact⟨_,a₁,w₁,hq,.of_steps (.one step_scope) harr⟩
end Go.Proofs.YtlliliddljkbfaaGreat
namespace Go.Proofs.YtlliliddljkbfaaGreat
open Go.Proofs.Tryz (prog)
open Go.RowKit Sp
def aB(b:Nat)(s:BY)(k:Nat)(w w':WD):Prop:=Sc w' b s k/\Turn b w w'
theorem aB.drewN{b k:Nat}{s:BY}{w w':WD}(h:aB b s k w w')(n:Nat):aB b s k w (w'.drewN n):=⟨h.1.drewN n,h.2.drewN n⟩
theorem aB.set{b k:Nat}{s:BY}{w w':WD}(h:aB b s k w w')(j:Nat)(hj:j<=s.size):aB b s j w (w'.setCell ⟨b,1,none⟩ (.int .i64 (j:Int))):=⟨h.1.set j hj,h.2.setCell 1 _⟩
theorem aB.alloc{b k:Nat}{s:BY}{w w':WD}(h:aB b s k w w')(o:Obj):aB b s k w (w'.alloc o):=⟨h.1.alloc o,h.2.alloc o⟩
theorem aB.refl{b k:Nat}{s:BY}{w:WD}(h:Sc w b s k):aB b s k w w:=⟨h,Turn.refl _ _⟩
theorem aB.nh{b k:Nat}{s:BY}{w:WD}(h:Sc w b s k):Hid (aB b s k w (w.alloc (.cells #[.int .i64 0,.string ⟨#[]⟩,.string ⟨#[]⟩] 93 (0,0)))):=(aB.refl h).alloc _
theorem aB.trans{b j k:Nat}{s:BY}{w w1 w2:WD}(h:aB b s j w w1)(h':aB b s k w1 w2):aB b s k w w2:=⟨h'.1,h.2.trans h'.2⟩
theorem Sc.iP{w:WD}{b i:Nat}{s:BY}(h:Sc w b s i)(v:Int)(j:Nat)(hv:v=j)(hj:j<=s.size):Sc (w.setCell ⟨b,1,none⟩ (.int .i64 v)) b s j:=by rw[hv];exact h.set j hj
theorem aB.iP{b k:Nat}{s:BY}{w w':WD}(h:aB b s k w w')(v:Int)(j:Nat)(hv:v=j)(hj:j<=s.size):aB b s j w (w'.setCell ⟨b,1,none⟩ (.int .i64 v)):=by rw[hv];exact h.set j hj
theorem Vx(i:Nat):(i:Int)+1=((i+1:Nat):Int):=oo
theorem Ap(s:BY)(b i:Nat)(w:WD)(h:Sc w b s i)(hi:i<s.size):
  Calls prog 185 #[.pointer (some ⟨b,0,none⟩)] w fun e w'=>e=.returned (.string (one s i))/\aB b s (i+1) w w':=by
 have HS:=hid h;have h0:=h.c0;have h1:=h.c1;have hf:=h.f1;have hl:=h.lt;have hs:=h.len;clear h;go_in;go_wp2
 go_quiet (fail)
 go_wp2
 go_ret;refine⟨rfl,?_⟩;rw[Vx];exact((aB.refl HS.o).set (i+1) oo).drewN _
theorem lg(s:BY)(b i:Nat)(w:WD)(h:Sc w b s i):
  Calls prog 176 #[.pointer (some ⟨b,0,none⟩)] w fun e w'=>e=.returned (.tuple #[])/\aB b s (Sp.blk s i) w w':=by
 have HS:=hid h;clear h;go_in;go_wp2_with fail;refine ji (fun Q' hF=>?_);go_wp2_with fail;go_loopg[] s.size (fun g wr=>∃k:Nat,s.size<=k+g/\Aside (Ae s g k=Sp.blk s i/\aB b s k w wr));case atStart=>exact⟨i,oo,rfl,aB.refl HS.o⟩
 case round=>
  obtain⟨k,hk,hA⟩:=hrel;have H1:=hid hA.o.1;have H2:=hid hA.o.2;clear hA;have h0:=H2.o.1.c0;have h1:=H2.o.1.c1;have hf:=H2.o.1.f1;have hl:=H2.o.1.lt;have hs:=H2.o.1.len;cases hbl:aO (pk s k)
  .have HV:Hid (Sp.blk s i=k):=by
    show Sp.blk s i=k;rw[<-H1.o];cases gk with
    |zero=>rfl
    |succ f=>unfold Ae;rw[if_neg (by simp[hbl])]
   go_wp2_with fail;refine(ak s b k _ k _ H2.o.1 ⟨oo,oo,oo⟩).mono ?_;rintro e w1 ⟨rfl,n1,rfl⟩;go_wp2_with fail;refine(aW _ _).mono ?_;rintro e w1 ⟨rfl,rfl⟩;go_wp2_with fail;go_step3
   refine hF.go 0 _ _ _ rfl ?_;go_wp2
   simp only[Exit.noGoto];go_end0
   refine⟨rfl,?_⟩;rw[HV.o];exact H2.o.drewN _
  .have hlt:k<s.size:=dY (lZ hbl);obtain⟨f,rfl⟩:∃f,gk=f+1:=⟨gk-1,oo⟩;have HV:Hid (Ae s f (k+1)=Sp.blk s i):=by
    have:=H1.o;unfold Ae at this;rw[if_pos hbl]at this;exact this
   go_wp2_with fail;refine(ak s b k _ k _ H2.o.1 ⟨oo,oo,oo⟩).mono ?_;rintro e w1 ⟨rfl,n1,rfl⟩;go_wp2_with fail;refine(aW _ _).mono ?_;rintro e w1 ⟨rfl,rfl⟩;go_wp2_with fail;go_roundg f;case measure=>omega
   case rel=>rw[Vx];exact⟨k+1,oo,HV.o,(H2.o.drewN _).set (k+1) oo⟩
theorem Ic(s:BY)(b i:Nat)(w:WD)(h:Sc w b s i)(hlt:i<s.size):
  Calls prog 288 #[.pointer (some ⟨b,0,none⟩)] w fun e w'=>e=.returned (.string (one s i))/\aB b s (i+1) w w':=by
 have W:Hid (aB b s i w w):=aB.refl h;clear h;have hne:(pk s i == -1)=false:=by have:=tK hlt;simp;omega
 go_in;go_wp2_with fail;refine cZ (ak s b (i) _ (i) _ (W.o.1) ⟨oo,oo,oo⟩) fun nq=>?_;go_wp2_with fail;refine pmb (Ap s b i _ (W.o.1.drewN _) hlt) fun w1 aj=>?_;have W1:Hid (aB b s (i+1) w w1):=(W.o.drewN _).trans aj;clear aj;go_wp2_with fail;go_ret;exact⟨rfl,W1.o⟩
theorem FV(s:BY)(b i:Nat)(w:WD)(h:Sc w b s i)(hlt:s.size<=i):
  Calls prog 288 #[.pointer (some ⟨b,0,none⟩)] w fun e w'=>e=.returned (.string Ec)/\aB b s i w w':=by
 have W:Hid (aB b s i w w):=aB.refl h;clear h;have hne:(pk s i == -1)=true:=by rw[oK hlt];rfl
 go_in;go_wp2_with fail;refine cZ (ak s b (i) _ (i) _ (W.o.1) ⟨oo,oo,oo⟩) fun nq=>?_;go_wp2_with fail;go_ret;exact⟨rfl,W.o.drewN _⟩
theorem Fh(n m:Nat)(hn:n<=255)(W:WD)(hW:W.heap.size=m):
  (convert 145 9 (.slice (some ⟨m,0,none⟩) 1 1)).run prog (W.alloc (.cells #[.int .u8 (n:Int)] 5))=.ok (.string (E8 n)) (W.alloc (.cells #[.int .u8 (n:Int)] 5)):=by
 subst hW;refine run_convert_bytes_back (P:=prog) _ 145 9 5 _ 1 [UInt8.ofNat n] Tryz.underlying145 Tryz.underlying5 Tryz.underlying9 ?_;intro j hj;obtain rfl:j=0:=by simpa using hj
 have e:((⟨W.heap.size,0,none⟩:Addr).add 0)=⟨W.heap.size,0,none⟩:=rfl;rw[e,World.cell?_alloc_mark];simp;omega
theorem BU(s:BY)(b i:Nat)(w:WD)(h:Sc w b s i)(hi:i<s.size):
  Calls prog 239 #[.pointer (some ⟨b,0,none⟩)] w fun e w'=>e=.returned (.string (esc s i).1)/\aB b s (esc s i).2 w w':=by
 have W:Hid (aB b s i w w):=aB.refl h;clear h;have c00:=W.o.1.c0;have c10:=W.o.1.c1;have KY:=W.o.1.f1;have KZ:=W.o.1.lt;have cs0:=W.o.1.len;have La:=W.o.1.le;go_in;go_wp2_with fail;refine ji (fun Q' hF=>?_);go_wp2_with fail;go_loopg[3,4] 6 (fun g n3 n4 wr=>∃d n:Nat,d+g=6/\n<16 ^ d/\n3=.int .i64 (n:Int)/\n4=.int .i64 (d:Int)/\Aside (tJ s g (i+1+d) n=tJ s 6 (i+1) 0/\aB b s (i+1+d) w wr));case atStart=>exact⟨0,0,oo,by decide,rfl,rfl,rfl,W.o.iP _ (i+1) oo oo⟩
 case round=>
  obtain⟨d,n,hd,hn,rfl,rfl,hA⟩:=hrel;have H1:=hid hA.o.1;have H2':Hid (aB b s (i+1+d) w wr):=hA.o.2;clear hA;obtain⟨k,HK⟩:∃k,Hid (k=i+1+d):=⟨_,rfl⟩;have H2:Hid (aB b s k w wr):=by show aB b s k w wr;rw[HK.o];exact H2'.o
  clear H2';have c02:=H2.o.1.c0;have c12:=H2.o.1.c1;have cf2:=H2.o.1.f1;have cl2:=H2.o.1.lt;have cs2:=H2.o.1.len;have ce2:=H2.o.1.le;have hkd:i+1+d<=k:=by have:=HK.o;omega
  have anf:k<=i+1+d:=by have:=HK.o;omega
  have hnb:n<16777216:=by
   have h1:16 ^ d<=16 ^ 6:=Nat.pow_le_pow_right oo oo;have h2:(16:Nat) ^ 6=16777216:=by decide
   omega
  have HP:=hid hn;clear hn;by_cases h6:d<6
  .have hlo:=abT s k;have hhi:=Yj s k;have hxl:=aiK (pk s k);have hxh:=aiJ (pk s k);obtain⟨f,rfl⟩:∃f,gk=f+1:=⟨gk-1,oo⟩;by_cases hx:0<=xk (pk s k)
   .have hlt:k<s.size:=dY (abV hx);have HV:Hid (tJ s f (i+1+(d+1)) (n*16+(xk (pk s k)).toNat)=tJ s 6 (i+1) 0):=by
     show _=_;rw[<-H1.o];conv=>rhs;unfold tJ
     have e:=HK.o;rw[<-e,if_pos hx,e];rfl
    have HN:Hid (n*16+(xk (pk s k)).toNat<16 ^ (d+1)):=by show _<_;rw[Nat.pow_succ];have:=HP.o;omega
    go_wp2_with fail;refine cZ (ak s b (k) _ (k) _ (H2.o.1) ⟨oo,oo,oo⟩) fun nq=>?_;go_wp2_with fail;refine jA (Ag _ _ oo oo) ?_;go_wp2_with fail;go_roundg f;case measure=>omega
    case rel=>exact⟨d+1,n*16+(xk (pk s k)).toNat,oo,HN.o,by congr 1;omega,by congr 1,HV.o,(H2.o.drewN _).iP _ _ oo oo⟩
   .have hx':xk (pk s k)<0:=oo;have HR:Hid (tJ s 6 (i+1) 0=(n,k)):=by
     show _=_;rw[<-H1.o,<-HK.o];unfold tJ;rw[if_neg hx]
    by_cases hd0:d=0
    .have akL:((d:Int)==0)=true:=by simp[hd0]
     have HD:=hid hd0;clear hd0;have hde:d<=0:=by have:=HD.o;omega
     go_wp2_with fail;refine cZ (ak s b (k) _ (k) _ (H2.o.1) ⟨oo,oo,oo⟩) fun nq=>?_;go_wp2_with fail;refine jA (Ag _ _ oo oo) ?_;go_wp2_with fail;go_step3
     refine hF.go 0 _ _ _ rfl ?_;clear hF;by_cases hks:k<s.size
     .have HV:Hid (esc s i=(one s k,k+1)):=by
       show esc s i=_;have e:k=i+1:=oo;unfold esc;dsimp only;rw[HR.o,if_pos (by show k=i+1;omega),<-e,if_pos hks,show i+2=k+1 by omega]
      go_wp2_with fail;refine pmb (Ic s b k _ (H2.o.1.drewN _) hks) fun w1 aj=>?_;have W1:Hid (aB b s (k+1) w w1):=(H2.o.drewN _).trans aj;clear aj;go_wp2_with fail;try rw[Exit.noGoto_ret]
      go_ret;rw[HV.o];exact⟨rfl,W1.o⟩
     .have HV:Hid (esc s i=(Ec,k)):=by
       show esc s i=_;have e:k=i+1:=oo;unfold esc;dsimp only;rw[HR.o,if_pos (by show k=i+1;omega),<-e,if_neg hks]
      go_wp2_with fail;refine pmb (FV s b k _ (H2.o.1.drewN _) oo) fun w1 aj=>?_;have W1:Hid (aB b s (k) w w1):=(H2.o.drewN _).trans aj;clear aj;go_wp2_with fail;try rw[Exit.noGoto_ret]
      go_ret;rw[HV.o];exact⟨rfl,W1.o⟩
    .have akL:((d:Int)==0)=false:=by simp[hd0]
     have hdp:0<d:=oo;clear hd0;go_wp2_with fail;refine cZ (ak s b (k) _ (k) _ (H2.o.1) ⟨oo,oo,oo⟩) fun nq=>?_;go_wp2_with fail;refine jA (Ag _ _ oo oo) ?_;go_wp2_with fail;go_step3
     refine hF.go 0 _ _ _ rfl ?_;clear hF;cases hbl:aO (pk s k)
     .by_cases hn1:n<1
      .have HV:Hid (esc s i=(Ec,k)):=by
        show esc s i=_;unfold esc;dsimp only;rw[HR.o];dsimp only;rw[if_neg oo,if_neg oo,if_neg (by simp[hbl])]
       go_wp2_with fail;refine cZ (ak s b (k) _ (k) _ (H2.o.1.drewN _) ⟨oo,oo,oo⟩) fun nq=>?_;go_wp2_with fail;refine jA (aW _ _) ?_;go_wp2_with fail;try rw[Exit.noGoto_ret]
       go_ret;rw[HV.o];exact⟨rfl,(H2.o.drewN _)⟩
      .by_cases hn2:255<n
       .have HV:Hid (esc s i=(Ec,k)):=by
         show esc s i=_;unfold esc;dsimp only;rw[HR.o];dsimp only;rw[if_neg oo,if_neg oo,if_neg (by simp[hbl])]
        go_wp2_with fail;refine cZ (ak s b (k) _ (k) _ (H2.o.1.drewN _) ⟨oo,oo,oo⟩) fun nq=>?_;go_wp2_with fail;refine jA (aW _ _) ?_;go_wp2_with fail;try rw[Exit.noGoto_ret]
        go_ret;rw[HV.o];exact⟨rfl,(H2.o.drewN _)⟩
       .have hcv:=Fh n wr.heap.size oo;have hcv0:=fun q=>Fh n wr.heap.size oo (wr.drewN q) rfl;have HV:Hid (esc s i=(E8 n,k)):=by
         show esc s i=_;unfold esc;dsimp only;rw[HR.o];dsimp only;rw[if_neg oo,if_pos ⟨oo,oo⟩,if_neg (by simp[hbl])]
        go_wp2_with fail;refine cZ (ak s b (k) _ (k) _ (H2.o.1.drewN _) ⟨oo,oo,oo⟩) fun nq=>?_;go_wp2_with fail;refine jA (aW _ _) ?_;go_wp2_with fail;try rw[Exit.noGoto_ret]
        go_ret;rw[HV.o];exact⟨rfl,(H2.o.drewN _).alloc _⟩
     .by_cases hn1:n<1
      .have hlt:k<s.size:=dY (lZ hbl);have HV:Hid (esc s i=(Ec,k+1)):=by
        show esc s i=_;unfold esc;dsimp only;rw[HR.o];dsimp only;rw[if_neg oo,if_neg oo,if_pos hbl]
       go_wp2_with fail;refine cZ (ak s b (k) _ (k) _ (H2.o.1.drewN _) ⟨oo,oo,oo⟩) fun nq=>?_;go_wp2_with fail;refine jA (aW _ _) ?_;go_wp2_with fail;try rw[Exit.noGoto_ret]
       go_ret;rw[HV.o];exact⟨rfl,((H2.o.drewN _).iP _ (k+1) oo oo)⟩
      .by_cases hn2:255<n
       .have hlt:k<s.size:=dY (lZ hbl);have HV:Hid (esc s i=(Ec,k+1)):=by
         show esc s i=_;unfold esc;dsimp only;rw[HR.o];dsimp only;rw[if_neg oo,if_neg oo,if_pos hbl]
        go_wp2_with fail;refine cZ (ak s b (k) _ (k) _ (H2.o.1.drewN _) ⟨oo,oo,oo⟩) fun nq=>?_;go_wp2_with fail;refine jA (aW _ _) ?_;go_wp2_with fail;try rw[Exit.noGoto_ret]
        go_ret;rw[HV.o];exact⟨rfl,((H2.o.drewN _).iP _ (k+1) oo oo)⟩
       .have hlt:k<s.size:=dY (lZ hbl);have hcv:=Fh n wr.heap.size oo;have hcv0:=fun q=>Fh n wr.heap.size oo (wr.drewN q) rfl;have HV:Hid (esc s i=(E8 n,k+1)):=by
         show esc s i=_;unfold esc;dsimp only;rw[HR.o];dsimp only;rw[if_neg oo,if_pos ⟨oo,oo⟩,if_pos hbl]
        go_wp2_with fail;refine cZ (ak s b (k) _ (k) _ (H2.o.1.drewN _) ⟨oo,oo,oo⟩) fun nq=>?_;go_wp2_with fail;refine jA (aW _ _) ?_;go_wp2_with fail;try rw[Exit.noGoto_ret]
        go_ret;rw[HV.o];exact⟨rfl,((H2.o.drewN _).iP _ (k+1) oo oo).alloc _⟩
  .have akL:((d:Int)==0)=false:=by simp;omega
   have HR:Hid (tJ s 6 (i+1) 0=(n,k)):=by show _=_;obtain rfl:gk=0:=oo;rw[<-H1.o,<-HK.o];rfl
   go_wp2_with fail;go_step3
   cases hbl:aO (pk s k)
   .by_cases hn1:n<1
    .have HV:Hid (esc s i=(Ec,k)):=by
      show esc s i=_;unfold esc;dsimp only;rw[HR.o];dsimp only;rw[if_neg oo,if_neg oo,if_neg (by simp[hbl])]
     go_wp2_with fail;refine cZ (ak s b (k) _ (k) _ (H2.o.1) ⟨oo,oo,oo⟩) fun nq=>?_;go_wp2_with fail;refine jA (aW _ _) ?_;go_wp2_with fail;refine hF.ret _ _ ?_;go_ret;rw[HV.o];exact⟨rfl,(H2.o.drewN _)⟩
    .by_cases hn2:255<n
     .have HV:Hid (esc s i=(Ec,k)):=by
       show esc s i=_;unfold esc;dsimp only;rw[HR.o];dsimp only;rw[if_neg oo,if_neg oo,if_neg (by simp[hbl])]
      go_wp2_with fail;refine cZ (ak s b (k) _ (k) _ (H2.o.1) ⟨oo,oo,oo⟩) fun nq=>?_;go_wp2_with fail;refine jA (aW _ _) ?_;go_wp2_with fail;refine hF.ret _ _ ?_;go_ret;rw[HV.o];exact⟨rfl,(H2.o.drewN _)⟩
     .have hcv:=Fh n wr.heap.size oo;have hcv0:=fun q=>Fh n wr.heap.size oo (wr.drewN q) rfl;have HV:Hid (esc s i=(E8 n,k)):=by
       show esc s i=_;unfold esc;dsimp only;rw[HR.o];dsimp only;rw[if_neg oo,if_pos ⟨oo,oo⟩,if_neg (by simp[hbl])]
      go_wp2_with fail;refine cZ (ak s b (k) _ (k) _ (H2.o.1) ⟨oo,oo,oo⟩) fun nq=>?_;go_wp2_with fail;refine jA (aW _ _) ?_;go_wp2_with fail;refine hF.ret _ _ ?_;go_ret;rw[HV.o];exact⟨rfl,(H2.o.drewN _).alloc _⟩
   .by_cases hn1:n<1
    .have hlt:k<s.size:=dY (lZ hbl);have HV:Hid (esc s i=(Ec,k+1)):=by
      show esc s i=_;unfold esc;dsimp only;rw[HR.o];dsimp only;rw[if_neg oo,if_neg oo,if_pos hbl]
     go_wp2_with fail;refine cZ (ak s b (k) _ (k) _ (H2.o.1) ⟨oo,oo,oo⟩) fun nq=>?_;go_wp2_with fail;refine jA (aW _ _) ?_;go_wp2_with fail;refine hF.ret _ _ ?_;go_ret;rw[HV.o];exact⟨rfl,((H2.o.drewN _).iP _ (k+1) oo oo)⟩
    .by_cases hn2:255<n
     .have hlt:k<s.size:=dY (lZ hbl);have HV:Hid (esc s i=(Ec,k+1)):=by
       show esc s i=_;unfold esc;dsimp only;rw[HR.o];dsimp only;rw[if_neg oo,if_neg oo,if_pos hbl]
      go_wp2_with fail;refine cZ (ak s b (k) _ (k) _ (H2.o.1) ⟨oo,oo,oo⟩) fun nq=>?_;go_wp2_with fail;refine jA (aW _ _) ?_;go_wp2_with fail;refine hF.ret _ _ ?_;go_ret;rw[HV.o];exact⟨rfl,((H2.o.drewN _).iP _ (k+1) oo oo)⟩
     .have hlt:k<s.size:=dY (lZ hbl);have hcv:=Fh n wr.heap.size oo;have hcv0:=fun q=>Fh n wr.heap.size oo (wr.drewN q) rfl;have HV:Hid (esc s i=(E8 n,k+1)):=by
       show esc s i=_;unfold esc;dsimp only;rw[HR.o];dsimp only;rw[if_neg oo,if_pos ⟨oo,oo⟩,if_pos hbl]
      go_wp2_with fail;refine cZ (ak s b (k) _ (k) _ (H2.o.1) ⟨oo,oo,oo⟩) fun nq=>?_;go_wp2_with fail;refine jA (aW _ _) ?_;go_wp2_with fail;refine hF.ret _ _ ?_;go_ret;rw[HV.o];exact⟨rfl,((H2.o.drewN _).iP _ (k+1) oo oo).alloc _⟩
theorem aiS(s:BY)(k:Nat)(h:k<s.size)(w:WD):(Instr.slice 9 (.string s) (some (.int .i64 (k:Int))) (some (.int .i64 ((k:Int)+1))) none).run prog w=.ok (.string (one s k)) w:=by rw[run_slice_string_if w 9 s .i64 .i64 _ _ Tryz.underlying9,if_pos ⟨oo,oo⟩,if_pos ⟨oo,oo⟩];congr 3
def wlI(c:Int):Bool:=(decide (97<=c)&&decide (c<=122))||(decide (65<=c)&&decide (c<=90))
def wdI(c:Int):Bool:=decide (48<=c)&&decide (c<=57)
def wtI(c:Int):Bool:=decide (32<=c)&&decide (c<=126)&&!(c==34||c==92||c==60||c==62)
def wkI(c:Int):Bool:=wlI c||wdI c||c==46||c==47||c==58||c==45
theorem tZ(c:UInt8)(n:Nat)(hn:n<256):(c==UInt8.ofNat n)=((c.toNat:Int)==(n:Int)):=by
 rw[Bool.eq_iff_iff];simp;constructor
 .rintro rfl;simp;omega
 .intro h;apply UInt8.toNat_inj.1
  have:c.toNat=n:=oo;rw[this];simp;omega
theorem aii(c:UInt8):wlI (c.toNat:Int)=oU c:=by unfold wlI oU;rw[Bool.eq_iff_iff];simp;omega
theorem aij(c:UInt8):wdI (c.toNat:Int)=oV c:=by unfold wdI oV;rw[Bool.eq_iff_iff];simp;omega
theorem akM(c:UInt8):wtI (c.toNat:Int)=jO c:=by unfold wtI jO;rw[show(c==34)=((c.toNat:Int)==34) from tZ c 34 oo,show(c==92)=((c.toNat:Int)==92) from tZ c 92 oo,show(c==60)=((c.toNat:Int)==60) from tZ c 60 oo,show(c==62)=((c.toNat:Int)==62) from tZ c 62 oo];rw[Bool.eq_iff_iff];simp;omega
theorem akN(c:UInt8):wkI (c.toNat:Int)=xH c:=by unfold wkI xH;rw[aii,aij,show(c==46)=((c.toNat:Int)==46) from tZ c 46 oo,show(c==47)=((c.toNat:Int)==47) from tZ c 47 oo,show(c==58)=((c.toNat:Int)==58) from tZ c 58 oo,show(c==45)=((c.toNat:Int)==45) from tZ c 45 oo]
theorem mZ(c:Int)(w:WD):Calls prog 294 #[.int .u8 c] w fun e w'=>e=.returned (.bool (wlI c))/\w'=w:=by
 go_in;go_wp2
 all_goals
  go_ret;exact⟨aC (by rw[Bool.eq_iff_iff];simp[wlI, *]<;>omega),rfl⟩
theorem pW(c:Int)(w:WD):Calls prog 295 #[.int .u8 c] w fun e w'=>e=.returned (.bool (wdI c))/\w'=w:=by
 go_in;go_wp2
 all_goals
  go_ret;exact⟨aC (by rw[Bool.eq_iff_iff];simp[wdI, *]<;>omega),rfl⟩
theorem QA(c:Int)(w:WD):Calls prog 278 #[.int .u8 c] w fun e w'=>e=.returned (.bool (wtI c))/\w'=w:=by
 go_in;go_wp2
 all_goals
  go_ret;exact⟨aC (by rw[Bool.eq_iff_iff];simp[wtI, *]<;>omega),rfl⟩
theorem QB(c:Int)(w:WD):Calls prog 281 #[.int .u8 c] w fun e w'=>e=.returned (.bool (wkI c))/\w'=w:=by
 cases h1:wlI c<;>cases h2:wdI c
 all_goals
  go_in;go_wp2_with(first|(go_at_call 294;refine(mZ _ _).mono ?_;rintro e w' ⟨rfl,rfl⟩)|(go_at_call 295;refine(pW _ _).mono ?_;rintro e w' ⟨rfl,rfl⟩));all_goals
   go_ret;exact⟨aC (by rw[Bool.eq_iff_iff];simp[wkI, *]),rfl⟩
def hexT:BY:=⟨#[48,49,50,51,52,53,54,55,56,57,97,98,99,100,101,102]⟩
theorem afU:∀n:Nat,n<16->hexT.extract n (n+1)=b1 (hexD n):=by decide
theorem MI(n:Nat)(h:n<16)(w:WD):(Instr.slice 9 (.string ⟨#[48,49,50,51,52,53,54,55,56,57,97,98,99,100,101,102]⟩) (some (.int .u8 (n:Int))) (some (.int .u8 ((n:Int)+1))) none).run prog w=.ok (.string (b1 (hexD n))) w:=by rw[run_slice_string_if w 9 _ .u8 .u8 _ _ Tryz.underlying9,if_pos ⟨oo,by show(n:Int)+1<=((16:Nat):Int);omega⟩,if_pos ⟨oo,oo⟩];have:=afU n h;unfold hexT at this;rw[show((n:Int)+1).toNat=n+1 by omega,show((n:Int)).toNat=n by omega,this]
theorem row4(w:WD)(a b c d:BY):(w.alloc (.cells #[.string a,.string b,.string c,.string d] 9)).ownsRow w.heap.size 9 1 (.slice (some ⟨w.heap.size,0,none⟩) 4 4) 4 ([a,b,c,d].map Value.string):=⟨rfl,.inr ⟨w.heap.size,4,_,rfl,Nat.le_refl _,heap_alloc_new w _,Nat.le_refl _,by unfold maxLen;omega,rfl,rfl⟩⟩
theorem row3(w:WD)(a b c:BY):(w.alloc (.cells #[.string a,.string b,.string c] 9)).ownsRow w.heap.size 9 1 (.slice (some ⟨w.heap.size,0,none⟩) 3 3) 3 ([a,b,c].map Value.string):=⟨rfl,.inr ⟨w.heap.size,3,_,rfl,Nat.le_refl _,heap_alloc_new w _,Nat.le_refl _,by unfold maxLen;omega,rfl,rfl⟩⟩
theorem amn(w:WD)(a b c d e:BY):(w.alloc (.cells #[.string a,.string b,.string c,.string d,.string e] 9)).ownsRow w.heap.size 9 1 (.slice (some ⟨w.heap.size,0,none⟩) 5 5) 5 ([a,b,c,d,e].map Value.string):=⟨rfl,.inr ⟨w.heap.size,5,_,rfl,Nat.le_refl _,heap_alloc_new w _,Nat.le_refl _,by unfold maxLen;omega,rfl,rfl⟩⟩
theorem QC(n:Nat)(h:n<16):IntKind.u8.wrap ((n:Int)+1)=(n:Int)+1:=by rw[IntKind.wrap_u8];omega
theorem ZY(c:UInt8)(w:WD):Calls prog 293 #[.int .u8 (c.toNat:Int)] w fun e w'=>e=.returned (.string (KU c))/\Below w.heap.size w w':=by
 have hc:c.toNat<256:=c.toNat_lt;obtain⟨h,Hh⟩:=Nm (c.toNat/16);obtain⟨l,Hl⟩:=Nm (c.toNat%16);have hh:h<16:=by have:=Hh.o;omega
 have hl:l<16:=by have:=Hl.o;omega
 have HE:Hid (KU c=aG [⟨#[92]⟩,b1 (hexD h),b1 (hexD l),⟨#[32]⟩]):=by show _=_;unfold KU;rw[Hh.o,Hl.o];rfl
 have e1:IntKind.u8.wrap ((c.toNat:Int)/16)=(h:Int):=by have:=Hh.o;rw[IntKind.wrap_u8];omega
 have e2:IntKind.u8.wrap ((c.toNat:Int)%16)=(l:Int):=by have:=Hl.o;rw[IntKind.wrap_u8];omega
 have e3:((c.toNat:Int)/16)=(h:Int):=by have:=Hh.o;omega
 have e4:((c.toNat:Int)%16)=(l:Int):=by have:=Hl.o;omega
 have e5:=QC h hh;have e6:=QC l hl;have s1:=MI h hh;have s2:=MI l hl;go_in;go_wp2_with fail;refine wp_region_any Ao ?_;change wpAny _ _ _ _ _ _ _ (World.drew _);refine FT 0 ?_;refine FT 1 ?_;refine FT 2 ?_;refine FT 3 ?_;refine FT 4 ?_;refine FT 5 ?_;refine FT 6 ?_;refine FT 7 ?_;refine brA 8 fun K hK=>?_;go_simp;refine hK _ _ ?_;clear hK K;refine brA 9 fun K hK=>?_;go_simp;have B1:Hid (Below w.heap.size w ((w.alloc (.cells #[.string ⟨#[92]⟩,.string (b1 (hexD h)),.string (b1 (hexD l)),.string ⟨#[32]⟩] 9)).drew)):=(Ax.alloc nl _).drew
 have R1:Hid (World.ownsRow ((w.alloc (.cells #[.string ⟨#[92]⟩,.string (b1 (hexD h)),.string (b1 (hexD l)),.string ⟨#[32]⟩] 9)).drew) w.heap.size 9 1 (.slice (some ⟨w.heap.size,0,none⟩) 4 4) 4 ([⟨#[92]⟩,b1 (hexD h),b1 (hexD l),⟨#[32]⟩].map Value.string)):=row4 w ⟨#[92]⟩ (b1 (hexD h)) (b1 (hexD l)) ⟨#[32]⟩;generalize(w.alloc (.cells #[.string ⟨#[92]⟩,.string (b1 (hexD h)),.string (b1 (hexD l)),.string ⟨#[32]⟩] 9)).drew=w2 at *;have hs2:=B1.o.size;refine(dQ [⟨#[92]⟩,b1 (hexD h),b1 (hexD l),⟨#[32]⟩] w.heap.size _ _ R1.o Ab (by show 1+(1+(1+(1+0)))<=_;omega)).mono ?_;rw[<-HE.o];rintro e w5 ⟨rfl,hb5⟩;have B5:=hid (B1.o.trans (hb5.mono hs2));clear hb5;refine hK _ _ ?_;clear hK K;refine brA 10 fun K hK=>?_;go_simp;refine hK _ _ ?_;clear hK K;refine wpAny_done Ao ?_ _;go_wp2_with fail;go_ret
 exact⟨rfl,B5.o⟩
end Go.Proofs.YtlliliddljkbfaaGreat
namespace Go.Proofs.YtlliliddljkbfaaGreat.Sp
abbrev Stack:=List (Tok×List Nd)
def fin:Stack->List Tok->List Nd
 |[],_=>[]
 |[(_,ins)],ts=>ins++(kids aA ts).1
 |(t,ins)::(t2,Aq)::R,ts=>fin ((t2,Aq++[.mk t (ins++(kids (closing t) ts).1)])::R) (kids (closing t) ts).2
termination_by s=>s.length
def dst:Stack->Nat
 |[]=>0
 |(_,ins)::R=>max (R.length+depth ins) (dst R)
def lQ:Stack->Prop
 |[]=>False
 |[(t,_)]=>closing t=aA
 |(t,_)::r::R=>closing t≠aA/\lQ (r::R)
theorem y8(t:Tok)(ins:List Nd)(ts:List Tok):fin [(t,ins)] ts=ins++(kids aA ts).1:=by unfold fin;rfl
theorem vC(t t2:Tok)(ins Aq:List Nd)(R:Stack)(ts:List Tok):fin ((t,ins)::(t2,Aq)::R) ts=fin ((t2,Aq++[.mk t (ins++(kids (closing t) ts).1)])::R) (kids (closing t) ts).2:=by conv=>lhs;unfold fin
theorem Lc(t:Tok):closing t=aA\/closing t=b1 41\/closing t=b1 93\/closing t=b1 125:=by
 unfold closing;repeat' split
 all_goals simp
theorem QD{t t0:Tok}(h:au t (closing t0)=true)(h0:closing t0≠aA):closing t=aA:=by
 unfold au at h;simp at h;obtain⟨h1,h2⟩:=h;unfold closing;rw[if_neg (by omega),if_pos h1,h2];rcases Lc t0 with e|e|e|e
 .exact absurd e h0
 all_goals rw[e];decide
theorem acd{t:Tok}(h:closing t≠aA)(t0:Tok)(ins:List Nd)(R:Stack)(r:List Tok)(hO:lQ ((t0,ins)::R)):fin ((t,[])::(t0,ins)::R) r=fin ((t0,ins)::R) (t::r):=by
 have hi:inside t r=kids (closing t) r:=by unfold inside;rw[if_neg h]
 rw[vC];have hne:¬(closing t0≠aA/\au t (closing t0)=true):=fun q=>h (QD q.2 q.1);cases R with
 |nil=>rw[y8,y8,iy (fun q=>q.1 rfl),hi];simp
 |cons x R=>obtain⟨t2,Aq⟩:=x;rw[vC,vC,iy hne,hi];simp
theorem Z7{t t0:Tok}(ins:List Nd)(t2:Tok)(Aq:List Nd)(R:Stack)(r:List Tok)(h:au t (closing t0)=true)(h0:closing t0≠aA):fin ((t0,ins)::(t2,Aq)::R) (t::r)=fin ((t2,Aq++[.mk t0 ins])::R) r:=by rw[vC,qX ⟨h0,h⟩];simp
theorem ace{t:Tok}(h:closing t=aA)(t0:Tok)(ins:List Nd)(R:Stack)(r:List Tok)(hn:¬(closing t0≠aA/\au t (closing t0)=true)):fin ((t0,ins++[.mk t []])::R) r=fin ((t0,ins)::R) (t::r):=by
 have hi:inside t r=([],r):=by unfold inside;rw[if_pos h]
 cases R with
 |nil=>rw[y8,y8,iy (fun q=>q.1 rfl),hi];simp
 |cons x R=>obtain⟨t2,Aq⟩:=x;rw[vC,vC,iy hn,hi];simp
theorem afV(t0:Tok)(ins:List Nd)(t2:Tok)(Aq:List Nd)(R:Stack):fin ((t0,ins)::(t2,Aq)::R) []=fin ((t2,Aq++[.mk t0 ins])::R) []:=by rw[vC,jB];simp
theorem Z8(t0:Tok)(ins:List Nd)(t2:Tok)(Aq:List Nd)(R:Stack)(h0:closing t0≠aA):dst ((t2,Aq++[.mk t0 ins])::R)=dst ((t0,ins)::(t2,Aq)::R):=by simp only[dst,Ah,xE (n:=.mk t0 ins) h0,List.length_cons,Nd.BK];omega
theorem acf{t:Tok}(h:closing t=aA)(t0:Tok)(ins:List Nd)(R:Stack):dst ((t0,ins++[.mk t []])::R)=dst ((t0,ins)::R):=by simp only[dst,Ah,Qu (n:=.mk t []) h];omega
theorem acg(t:Tok)(R:Stack):dst ((t,[])::R)=max (dst R) R.length:=by simp only[dst,depth];omega
theorem lQ.ne{S:Stack}(h:lQ S):S≠[]:=by rintro rfl;exact h
theorem lQ.push{S:Stack}(h:lQ S){t:Tok}(ht:closing t≠aA)(ins:List Nd):lQ ((t,ins)::S):=by
 cases S with
 |nil=>exact h.elim
 |cons r R=>exact⟨ht,h⟩
theorem lQ.same{t:Tok}{i j:List Nd}{R:Stack}(h:lQ ((t,i)::R)):lQ ((t,j)::R):=by
 cases R with
 |nil=>exact h
 |cons r R=>exact h
theorem lQ.pop{t t2:Tok}{i i2 j:List Nd}{R:Stack}(h:lQ ((t,i)::(t2,i2)::R)):closing t≠aA/\lQ ((t2,j)::R):=⟨h.1,lQ.same (i:=i2) h.2⟩
theorem Z9(ts:List Tok):fin [(Tok.k 0,[])] ts=nodes ts:=by rw[y8];rfl
end Go.Proofs.YtlliliddljkbfaaGreat.Sp
namespace Go.Proofs.YtlliliddljkbfaaGreat
open Go.Proofs.Tryz (prog)
open Go.RowKit Sp
section
structure Fr where
 tok:Tok
 ins:List Nd
 v:Av
 cs:List Av
def Fr.cells(f:Fr):List Av:=[.int .i64 f.tok.kind,.string f.tok.word,.string f.tok.unit,.string (closing f.tok),f.v]
def BX(base:Nat)(w:WD)(v:Av)(L:List Fr)(b:Nat):Prop:=base<=b/\b<w.heap.size/\some b≠v.ownBlock/\∀f∈L,some b≠f.v.ownBlock
structure vF(base:Nat)(w:WD)(v:Av)(L:List Fr):Prop where
 row:w.ownsRow base 195 5 v L.length (L.flatMap Fr.cells)
 own:∀f∈L,w.ownsRow base 199 4 f.v f.ins.length f.cs
 kid:∀f∈L,tq (BX base w v L) w f.ins f.cs
 ok:∀f∈L,dI f.tok
 dist:L.Pairwise (fun a b=>∀k,a.v.ownBlock=some k->b.v.ownBlock≠some k)
def mM(L:List Fr):Stack:=(L.map (fun f=>(f.tok,f.ins))).reverse
theorem dG(L:List Fr)(f:Fr):mM (L++[f])=(f.tok,f.ins)::mM L:=by simp[mM]
theorem QE(L:List Fr):(mM L).length=L.length:=by simp[mM]
theorem kS(L:List Fr):(L.flatMap Fr.cells).length=L.length*5:=by
 induction L with
 |nil=>rfl
 |cons f r ih=>simp only[List.flatMap_cons,List.length_append,ih,Fr.cells,List.length_cons,List.length_nil];omega
theorem aP{w w':WD}{base e s n:Nat}{v:Av}{xs:List Av}(h:w.ownsRow base e s v n xs)(hw:∀g,v.ownBlock=some g->w'.heap[g]?=w.heap[g]?):w'.ownsRow base e s v n xs:=by
 refine⟨h.1,?_⟩;rcases h.2 with hn|⟨g,cap,cur,rfl,hbg,hgg,rest⟩
 .exact .inl hn
 .exact .inr ⟨g,cap,cur,rfl,hbg,by rw[hw g rfl];exact hgg,rest⟩
section
variable {base:Nat} {w w':WD} {v:Av} {L:List Fr}
theorem vF.keep(h:vF base w v L)(hs:w.heap.size<=w'.heap.size)(hw:∀g,base<=g->g<w.heap.size->w'.heap[g]?=w.heap[g]?):vF base w' v L:=
 ⟨aP h.row fun g hg=>hw g (h.row.lt g hg).1 (h.row.lt g hg).2,
  fun f hf=>aP (h.own f hf) fun g hg=>hw g ((h.own f hf).lt g hg).1 ((h.own f hf).lt g hg).2,
  fun f hf=>(h.kid f hf).keep (fun g hg=>⟨hg.1,by have:=hg.2.1;omega,hg.2.2⟩) fun g hg=>hw g hg.1 hg.2.1,h.ok,h.dist⟩
theorem vF.apart(h:vF base w v L){f:Fr}(hf:f∈L)(k:Nat)(hk:v.ownBlock=some k):f.v.ownBlock≠some k:=ZQ h.row (h.own f hf) Al k hk
theorem vF.drop{f:Fr}(h:vF base w v (L++[f]))(h6:f.ins.length<=600){g n cap:Nat}(e:v=.slice (some ⟨g,0,none⟩) n cap):
  vF base w (.slice (some ⟨g,0,none⟩) L.length cap) L/\Sl (BX base w (.slice (some ⟨g,0,none⟩) L.length cap) L) w f.v f.ins:=by
 subst e;have hl:=h.row.1;have hrow:w.ownsRow base 195 5 (.slice (some ⟨g,0,none⟩) L.length cap) L.length (L.flatMap Fr.cells):=by
  refine⟨kS L,.inr ?_⟩;rcases h.row.2 with⟨hv,_⟩|⟨g',cap',cur,hv,hbg,hgg,hnc,hcm,hcs,htk⟩
  .cases hv
  .cases hv;refine⟨g,cap,cur,rfl,hbg,hgg,by simp at hnc;omega,hcm,hcs,?_⟩;have h1:(cur.toList.take ((L++[f]).length*5)).take (L.length*5)=cur.toList.take (L.length*5):=by
    rw[List.take_take,Nat.min_eq_left (by simp only[List.length_append,List.length_cons,List.length_nil];omega)]
   rw[<-h1,htk,List.flatMap_append,<-kS L,List.take_left'];rfl
 have hS:∀b,BX base w (.slice (some ⟨g,0,none⟩) n cap) (L++[f]) b->BX base w (.slice (some ⟨g,0,none⟩) L.length cap) L b:=fun b hb=>⟨hb.1,hb.2.1,hb.2.2.1,fun q hq=>hb.2.2.2 q (by simp[hq])⟩;have hdist:=List.pairwise_append.1 h.dist;refine⟨⟨hrow,fun q hq=>h.own q (by simp[hq]),fun q hq=>(h.kid q (by simp[hq])).keep hS fun _ _=>rfl,fun q hq=>h.ok q (by simp[hq]),hdist.1⟩,?_⟩;have ho:=h.own f Ab;have hk:tq (BX base w (.slice (some ⟨g,0,none⟩) L.length cap) L) w f.ins f.cs:=(h.kid f Ab).keep hS fun _ _=>rfl;rcases ho.2 with⟨hv,hn⟩|⟨g',cap',cur,hv,hbg,hgg,hnc,hcm,hcs,htk⟩
 .have:f.ins=[]:=List.eq_nil_of_length_eq_zero hn;rw[hv,this];exact Sl.nil _ _
 .rw[hv];have hf1:some g'≠Value.ownBlock (.slice (some ⟨g,0,none⟩) L.length cap):=by
   intro e;have:=h.apart (f:=f) Ab g rfl;rw[hv]at this;exact this (by rw[show Value.ownBlock (.slice (some ⟨g,0,none⟩) L.length cap)=some g from rfl]at e;cases e;rfl)
  have hf2:∀q∈L,some g'≠q.v.ownBlock:=by intro q hq e;exact hdist.2.2 q hq f Ab g' e.symm (by rw[hv];rfl)
  refine⟨_,cap',rfl,⟨hnc,h6⟩,fun _=>⟨g',0,rfl,tq.lies ⟨hbg,(Ay hgg),hf1,hf2⟩ f.ins f.cs 0 hk fun j u hu=>?_⟩⟩;have:=ho.cells (g:=g') (by rw[hv];rfl) j u hu;rw[Addr.add_lit,Nat.zero_add]at this;rw[Nat.zero_add];exact this
theorem vF.push(h:vF base w v L)(t:Tok)(ht:dI t){v2:Av}
  (hrow:w'.ownsRow base 195 5 v2 (L.length+1) (L.flatMap Fr.cells++[.int .i64 t.kind,.string t.word,.string t.unit,.string (closing t),.slice none 0 0]))
  (hs:w.heap.size<=w'.heap.size) (hw:∀g,g<w.heap.size->some g≠v.ownBlock->w'.heap[g]?=w.heap[g]?) (hat:v2.ownBlock=v.ownBlock\/∃b,v2.ownBlock=some b/\w.heap.size<=b):
  vF base w' v2 (L++[⟨t,[],.slice none 0 0,[]⟩]):=by
 have hnv:∀g,g<w.heap.size->some g≠v.ownBlock->some g≠v2.ownBlock:=by
  intro g hg h1;rcases hat with e|⟨b,e,hb⟩
  .rw[e];exact h1
  .rw[e];intro e2;cases e2;omega
 have hS:∀b,BX base w v L b->BX base w' v2 (L++[⟨t,[],.slice none 0 0,[]⟩]) b:=fun b hb=>⟨hb.1,by have:=hb.2.1;omega,hnv b hb.2.1 hb.2.2.1,fun q hq=>by
  rcases List.mem_append.1 hq with h1|h1
  .exact hb.2.2.2 q h1
  .rw[List.mem_singleton.1 h1];simp[Value.ownBlock]⟩
 have hnew:∀q∈L++[(⟨t,[],.slice none 0 0,[]⟩:Fr)],q∈L\/q=⟨t,[],.slice none 0 0,[]⟩:=fun q hq=>by simpa using hq
 refine⟨?_,fun q hq=>?_,fun q hq=>?_,fun q hq=>?_,?_⟩
 .rw[List.length_append,List.flatMap_append];simpa[Fr.cells]using hrow
 .rcases hnew q hq with h1|rfl
  .exact aP (h.own q h1) fun g hg=>hw g ((h.own q h1).lt g hg).2 fun e=>h.apart h1 g e.symm hg
  .exact World.ownsRow_nil _ _ _ _
 .rcases hnew q hq with h1|rfl
  .exact(h.kid q h1).keep hS fun g hg=>hw g hg.2.1 hg.2.2.1
  .rfl
 .rcases hnew q hq with h1|rfl
  .exact h.ok q h1
  .exact ht
 .refine List.pairwise_append.2 ⟨h.dist,by simp,fun a _ b hb k _=>?_⟩;rw[List.mem_singleton.1 hb];simp[Value.ownBlock]
theorem afW(xs:List Av)(k:Nat)(hk:xs.length=k*5)(a b c d e e2:Av):(xs++[a,b,c,d,e]).set (k*5+4) e2=xs++[a,b,c,d,e2]:=by rw[<-hk,List.set_append_right _ _ oo];simp
theorem vF.grow{f:Fr}(h:vF base w v (L++[f])){n:Nd}{kv:Av}(hk:Sl (BX base w v (L++[f])) w kv n.kids/\dI n.t){v2:Av}{cs2:List Av}
  (hcs:cs2=f.cs++[.int .i64 n.t.kind,.string n.t.word,.string n.t.unit,kv])
  (hown:w'.ownsRow base 199 4 v2 (f.ins.length+1) cs2)
  (hrow:w'.ownsRow base 195 5 v (L.length+1) (L.flatMap Fr.cells++[.int .i64 f.tok.kind,.string f.tok.word,.string f.tok.unit,.string (closing f.tok),v2]))
  (hs:w.heap.size<=w'.heap.size) (hw:∀g,g<w.heap.size->some g≠v.ownBlock->some g≠f.v.ownBlock->w'.heap[g]?=w.heap[g]?) (hat:v2.ownBlock=f.v.ownBlock\/∃b,v2.ownBlock=some b/\w.heap.size<=b):
  vF base w' v (L++[⟨f.tok,f.ins++[n],v2,cs2⟩]):=by
 subst hcs;have hdist:=List.pairwise_append.1 h.dist;have hn2:∀g,g<w.heap.size->some g≠f.v.ownBlock->some g≠v2.ownBlock:=by
  intro g hg h1;rcases hat with e|⟨b,e,hb⟩
  .rw[e];exact h1
  .rw[e];intro e2;cases e2;omega
 have hS:∀b,BX base w v (L++[f]) b->BX base w' v (L++[⟨f.tok,f.ins++[n],v2,f.cs++[.int .i64 n.t.kind,.string n.t.word,.string n.t.unit,kv]⟩]) b:=fun b hb=>⟨hb.1,by have:=hb.2.1;omega,hb.2.2.1,fun q hq=>by
  rcases List.mem_append.1 hq with h1|h1
  .exact hb.2.2.2 q (by simp[h1])
  .rw[List.mem_singleton.1 h1];exact hn2 b hb.2.1 (hb.2.2.2 f Ab)⟩
 have hW:∀g,BX base w v (L++[f]) g->w'.heap[g]?=w.heap[g]?:=fun g hg=>hw g hg.2.1 hg.2.2.1 (hg.2.2.2 f Ab);have hnew:∀q∈L++[(⟨f.tok,f.ins++[n],v2,f.cs++[.int .i64 n.t.kind,.string n.t.word,.string n.t.unit,kv]⟩:Fr)],q∈L\/q=⟨f.tok,f.ins++[n],v2,f.cs++[.int .i64 n.t.kind,.string n.t.word,.string n.t.unit,kv]⟩:=fun q hq=>by simpa using hq
 refine⟨?_,fun q hq=>?_,fun q hq=>?_,fun q hq=>?_,?_⟩
 .rw[List.length_append,List.flatMap_append];simpa[Fr.cells]using hrow
 .rcases hnew q hq with h1|rfl
  .exact aP (h.own q (by simp[h1])) fun g hg=>hw g ((h.own q (by simp[h1])).lt g hg).2 (fun e=>h.apart (f:=q) (by simp[h1]) g e.symm hg) (fun e=>hdist.2.2 q h1 f Ab g hg e.symm)
  .simpa using hown
 .rcases hnew q hq with h1|rfl
  .exact(h.kid q (by simp[h1])).keep hS hW
  .exact tq.snoc _ _ ((h.kid f Ab).keep hS hW) n kv ⟨hk.1.keep hS hW,hk.2⟩
 .rcases hnew q hq with h1|rfl
  .exact h.ok q (by simp[h1])
  .exact h.ok f Ab
 .refine List.pairwise_append.2 ⟨hdist.1,by simp,fun a ha b hb k hk=>?_⟩;rw[List.mem_singleton.1 hb];have:=((h.own a (by simp[ha])).lt k hk).2;rcases hat with e|⟨b',e,hb'⟩
  .show v2.ownBlock≠some k;rw[e];exact hdist.2.2 a ha f Ab k hk
  .show v2.ownBlock≠some k;rw[e];intro e2;cases e2;omega
theorem vF.put{f:Fr}(h:vF base w v (L++[f])){g co:Nat}(e:v=.slice (some ⟨g,0,none⟩) (L.length+1) co)(n:Nd)(kv:Av)(hk:Sl (BX base w v (L++[f])) w kv n.kids/\dI n.t){W w4:WD}{gv vc:Nat}{z0 z1 z2 z3:Av}
  (hWs:w.heap.size<=W.heap.size) (hW:∀k,k<w.heap.size->W.heap[k]?=w.heap[k]?)
  (hown:w4.ownsRow base 199 4 (.slice (some ⟨gv,0,none⟩) (f.ins.length+1) vc) (f.ins.length+1) (f.cs++[z0,z1,z2,z3])) (hgr:W.grownBy w4 f.v.ownBlock) (hat:some gv=f.v.ownBlock\/some gv=some W.heap.size):
  vF base (((((w4.setCell ⟨g,L.length*5+4,none⟩ (.slice (some ⟨gv,0,none⟩) (f.ins.length+1) vc)).setCell ⟨gv,f.ins.length*4,none⟩ (.int .i64 n.t.kind)).setCell ⟨gv,f.ins.length*4+1,none⟩ (.string n.t.word)).setCell ⟨gv,f.ins.length*4+2,none⟩ (.string n.t.unit)).setCell ⟨gv,f.ins.length*4+3,none⟩ kv)
   v (L++[⟨f.tok,f.ins++[n],.slice (some ⟨gv,0,none⟩) (f.ins.length+1) vc,f.cs++[.int .i64 n.t.kind,.string n.t.word,.string n.t.unit,kv]⟩]):=by
 have hap:some g≠f.v.ownBlock:=fun e2=>h.apart (f:=f) Ab g (by rw[e];rfl) e2.symm;have hgo:=h.row.lt g (by rw[e];rfl);have hrow0:w.ownsRow base 195 5 v (L.length+1) (L.flatMap Fr.cells++[.int .i64 f.tok.kind,.string f.tok.word,.string f.tok.unit,.string (closing f.tok),f.v]):=by have:=h.row;rw[List.length_append,List.flatMap_append]at this;simpa[Fr.cells]using this
 have amo:=aP (w':=W) hrow0 fun k hk=>hW k (hrow0.lt k hk).2;have row4:=amo.kept hgr (.inr (by rw[e];exact hap));have hcl:f.cs.length=f.ins.length*4:=(h.own f Ab).1;have hs:=hgr.size;have hne:gv≠g:=by
  rintro rfl;rcases hat with e2|e2
  .exact hap e2
  .cases e2;omega
 subst e;obtain⟨s5,g5⟩:=row4.stored (L.length*5+4) (.slice (some ⟨gv,0,none⟩) (f.ins.length+1) vc);have o5:=hown.kept g5 (.inr (by simp[Value.ownBlock];exact hne));obtain⟨o6,g6⟩:=o5.stored (f.ins.length*4) (.int .i64 n.t.kind);obtain⟨o7,g7⟩:=o6.stored (f.ins.length*4+1) (.string n.t.word);obtain⟨o8,g8⟩:=o7.stored (f.ins.length*4+2) (.string n.t.unit);obtain⟨o9,g9⟩:=o8.stored (f.ins.length*4+3) kv;rw[ab4 _ _ hcl]at o9;rw[afW _ _ (kS L)]at s5;have hro:Value.ownBlock (.slice (some ⟨g,0,none⟩) (L.length+1) co)≠some gv:=by simp[Value.ownBlock];exact fun e=>hne e.symm
 have s9:=(((s5.kept g6 (.inr hro)).kept g7 (.inr hro)).kept g8 (.inr hro)).kept g9 (.inr hro);have hz5:=g5.size;have hz6:=g6.size;have hz7:=g7.size;have hz8:=g8.size;have hz9:=g9.size;refine h.grow hk rfl o9 s9 oo (fun k hk h2 h1=>?_) ?_
 .have hgg:some k≠some gv:=by
   rcases hat with e2|e2
   .rw[e2];exact h1
   .cases e2;intro e3;cases e3;omega
  rw[g9.block k oo hgg,g8.block k oo hgg,g7.block k oo hgg,g6.block k oo hgg,g5.block k oo h2,hgr.block k oo h1,hW k hk]
 .rcases hat with e2|e2
  .exact .inl e2
  .cases e2;exact .inr ⟨_,rfl,hWs⟩
end
theorem Ou(w:WD){a b:Addr}(h:a.block≠b.block)(x y:Av):(w.setCell a x).setCell b y=(w.setCell b y).setCell a x:=by
 unfold World.setCell;simp only;congr 1
 apply Array.ext_getElem?
 intro i;simp only[Array.getElem?_modify];by_cases h1:a.block=i
 .have h2:¬b.block=i:=fun e=>h (h1.trans e.symm);simp[h1,h2]
 .simp[h1]
end
theorem eF{w w':WD}{base:Nat}{e:TypeId}{size:Nat}{v:Av}{n:Nat}{xs:List Av}{b:Nat}(h:w.ownsRow base e size v n xs)(ht:Turn b w w')(hb:b<base):w'.ownsRow base e size v n xs:=by
 refine⟨h.1,?_⟩;rcases h.2 with hn|⟨g,cap,cur,rfl,hbg,hgg,rest⟩
 .exact .inl hn
 .refine .inr ⟨g,cap,cur,rfl,hbg,?_,rest⟩;rw[ht.block g (Ay hgg) oo];exact hgg
theorem bP{w:WD}{base:Nat}{e:TypeId}{size:Nat}{v:Av}{n:Nat}{xs:List Av}(h:w.ownsRow base e size v n xs)(k:Nat):(w.drewN k).ownsRow base e size v n xs:=h
theorem aB.grown{b k:Nat}{s:BY}{w w1 w2:WD}{row:Option Nat}(h:aB b s k w w1)(hg:w1.grownBy w2 row)(hb:b<w.heap.size)(hrow:∀r,row=some r->w.heap.size<=r):aB b s k w w2:=by
 have hsz:=h.2.size;have hp:=h.1.pos;refine⟨⟨?_,?_,h.1.pos,h.1.len,h.1.le⟩,?_⟩
 .rw[hg.block b oo (fun e=>by have:=hrow b e.symm;omega)];exact h.1.blk
 .obtain⟨m,hm⟩:=h.1.glob;exact⟨m,by rw[<-hm];exact World.cell?_of_block (w:=w1) (hg.block 0 oo (fun e=>by have:=hrow 0 e.symm;omega))⟩
 .exact⟨hg.os.trans h.2.os,hg.tape.trans h.2.tape,hg.output.trans h.2.output,Nat.le_trans hsz hg.size,fun j hj hjb=>(hg.block j oo (fun e=>by have:=hrow j e.symm;omega)).trans (h.2.block j hj hjb)⟩
theorem aB.below{b k:Nat}{s:BY}{w w1 w2:WD}(h:aB b s k w w1)(hb:Below w1.heap.size w1 w2):aB b s k w w2:=by
 have hl:=h.1.lt;have hp:=h.1.pos;refine⟨⟨?_,?_,h.1.pos,h.1.len,h.1.le⟩,h.2.trans (Turn.of_below hb)⟩
 .rw[hb.block b hl];exact h.1.blk
 .obtain⟨m,hm⟩:=h.1.glob;exact⟨m,by rw[<-hm];exact hb.cell (p:=⟨0,0,none⟩) (by show 0<w1.heap.size;omega)⟩
theorem aT(x:BY):∀u∈[Value.string x],u.oneCell'=true:=by simp[Value.oneCell']
theorem Ar(s:BY)(b i:Nat)(w:WD)(h:Sc w b s i):
  Calls prog 180 #[.pointer (some ⟨b,0,none⟩)] w fun e w'=>e=.returned (.string (Sp.name s i).1)/\aB b s (Sp.name s i).2 w w':=by
 have W:Hid (aB b s i w w):=aB.refl h;clear h;have hbw:b<w.heap.size:=W.o.1.lt;have hs:s.size<=600:=W.o.1.len;obtain⟨iS,wK⟩:=info_str;have HI:=hid wK;clear wK;go_in;go_wp2_with fail;refine ji (fun Q' hF=>?_);go_wp2_with fail;go_loopg[3] s.size (fun g v3 wr=>∃(v:Av) (k:Nat) (ps:List BY),v=v3/\s.size<=k+g/\ps.length<=k/\total ps<=k/\Aside (iK s g k (aG ps)=Sp.name s i/\wr.ownsRow w.heap.size 9 1 v ps.length (ps.map Value.string)/\aB b s k w wr));case atStart=>exact⟨_,i,[],rfl,oo,by simp,by simp[total],rfl,World.ownsRow_nil _ _ _ _,W.o⟩
 case round=>
  obtain⟨v3,k,ps,rfl,hk,hpl,hpt,hA⟩:=hrel;have H1:=hid hA.o.1;have HO:=hid hA.o.2.1;have H2:=hid hA.o.2.2;clear hA;have hke:=H2.o.1.le;cases hn:lX (pk s k)
  .cases he:kY s k
   .have HV:Hid (Sp.name s i=(aG ps,k)):=by
     show _=_;rw[<-H1.o];cases gk with
     |zero=>rfl
     |succ f=>unfold iK;rw[if_neg (by simp[hn]),if_neg (by simp[he])]
    go_wp2_with fail;refine cZ (ak s b (k) _ (k) _ (H2.o.1) ⟨oo,oo,oo⟩) fun nq=>?_;go_wp2_with fail;refine jA (nC _ _) ?_;go_wp2_with fail;refine cZ (fA s b (k) _ (k) _ (H2.o.1.drewN _) ⟨oo,oo,oo⟩) fun nq=>?_;go_wp2_with fail;go_step3
    refine hF.go 0 _ _ _ rfl ?_;clear hF;go_wp2_with fail;refine pmb (dQ ps w.heap.size v3 _ (bP HO.o _) oo oo) fun w1 hb1=>?_;have W1:Hid (aB b s k w w1):=(H2.o.drewN _).below hb1;clear hb1;go_wp2_with fail;try rw[Exit.noGoto_ret]
    go_ret;rw[HV.o];exact⟨rfl,W1.o⟩
   .have hlt:k<s.size:=Oc he;have hle:=uX hlt;have hgt:=oL s k;obtain⟨f,rfl⟩:∃f,gk=f+1:=⟨gk-1,oo⟩;have HV:Hid (iK s f (esc s k).2 (aG (ps++[(esc s k).1]))=Sp.name s i):=by
     show _=_;rw[<-H1.o,dw];conv=>rhs;unfold iK
     rw[if_neg (by simp[hn]),if_pos he]
    have hsz:Hid ((esc s k).1.size=1):=kN;go_wp2_with fail;refine cZ (ak s b (k) _ (k) _ (H2.o.1) ⟨oo,oo,oo⟩) fun nq=>?_;go_wp2_with fail;refine jA (nC _ _) ?_;go_wp2_with fail;refine cZ (fA s b (k) _ (k) _ (H2.o.1.drewN _) ⟨oo,oo,oo⟩) fun nq=>?_;go_wp2_with fail;refine pmb (BU s b k _ (H2.o.1.drewN _) hlt) fun w1 aj=>?_;have W1:Hid (aB b s (esc s k).2 w w1):=(H2.o.drewN _).trans aj;have uS:Hid (w1.ownsRow w.heap.size 9 1 v3 ps.length (ps.map Value.string)):=eF (bP HO.o _) aj.2 hbw;clear aj;have hw1:=W1.o.2.size
    go_wp2_with(at_builtin;refine wpList_append_own _ rfl _ _ 26 rfl w.heap.size 9 iS (.string ⟨#[]⟩) 1 16 Tryz.underlying26 HI.o.1 HI.o.2.1 HI.o.2.2.1 HI.o.2.2.2 rfl oo v3 ps.length (ps.map Value.string) rfl (uS.o.alloc _) ⟨w1.heap.size,0,none⟩ 1 1 [.string (esc s k).1] rfl rfl (cell_one_new _ _ _) (aT _) ?_ ?_ ?_ ?_)
    .unfold maxLen;omega
    .omega
    .simp;omega
    intro v4 w2 hown2 jk _;have W2:Hid (aB b s (esc s k).2 w w2):=(W1.o.alloc _).grown jk hbw (fun r hr=>(uS.o.lt r hr).1);have FW:=hid hown2;clear hown2 jk;go_wp2_with fail;go_roundg f;case measure=>omega
    case rel=>
     refine⟨v4,(esc s k).2,ps++[(esc s k).1],rfl,oo,by simp;omega,?_,HV.o,?_,W2.o⟩
     .have:=hsz.o;simp[dh,total,this];omega
     .simpa using FW.o
  .have hlt:k<s.size:=dY (uV hn);obtain⟨f,rfl⟩:∃f,gk=f+1:=⟨gk-1,oo⟩;have HV:Hid (iK s f (k+1) (aG (ps++[one s k]))=Sp.name s i):=by
    show _=_;rw[<-H1.o,dw];conv=>rhs;unfold iK
    rw[if_pos hn]
   have hsz:Hid ((one s k).size=1):=iQ hlt;go_wp2_with fail;refine cZ (ak s b (k) _ (k) _ (H2.o.1) ⟨oo,oo,oo⟩) fun nq=>?_;go_wp2_with fail;refine jA (nC _ _) ?_;go_wp2_with fail;refine pmb (Ap s b k _ (H2.o.1.drewN _) hlt) fun w1 aj=>?_;have W1:Hid (aB b s (k+1) w w1):=(H2.o.drewN _).trans aj;have uS:Hid (w1.ownsRow w.heap.size 9 1 v3 ps.length (ps.map Value.string)):=eF (bP HO.o _) aj.2 hbw;clear aj;have hw1:=W1.o.2.size;go_wp2_with(at_builtin;refine wpList_append_own _ rfl _ _ 26 rfl w.heap.size 9 iS (.string ⟨#[]⟩) 1 16 Tryz.underlying26 HI.o.1 HI.o.2.1 HI.o.2.2.1 HI.o.2.2.2 rfl oo v3 ps.length (ps.map Value.string) rfl (uS.o.alloc _) ⟨w1.heap.size,0,none⟩ 1 1 [.string (one s k)] rfl rfl (cell_one_new _ _ _) (aT _) ?_ ?_ ?_ ?_)
   .unfold maxLen;omega
   .omega
   .simp;omega
   intro v4 w2 hown2 jk _;have W2:Hid (aB b s (k+1) w w2):=(W1.o.alloc _).grown jk hbw (fun r hr=>(uS.o.lt r hr).1);have FW:=hid hown2;clear hown2 jk;go_wp2_with fail;go_roundg f;case measure=>omega
   case rel=>
    refine⟨v4,k+1,ps++[one s k],rfl,oo,by simp;omega,?_,HV.o,?_,W2.o⟩
    .have:=hsz.o;simp[dh,total,this];omega
    .simpa using FW.o
def bt(s:BY)(k:Nat):UInt8:=if h:k<s.size then s[k] else 0
theorem MJ{s:BY}{k:Nat}(h:k<s.size):bt s k=s[k]:=by unfold bt;rw[dif_pos h]
theorem Ie{s:BY}{k:Nat}(h:k<s.size):pk s k=((bt s k).toNat:Int):=by rw[MJ h];unfold pk;rw[dif_pos h]
def zO(ok:Nat->Bool)(s:BY):Nat->List BY
 |0=>[]
 |k+1=>zO ok s k++[if ok k=true then b1 (bt s k) else KU (bt s k)]
theorem afX(ok:Nat->Bool)(s:BY)(k:Nat):(zO ok s k).length=k:=by
 induction k with
 |zero=>rfl
 |succ k ih=>simp[zO,ih]
theorem Ej(ok:Nat->Bool)(s:BY)(k:Nat):total (zO ok s k)<=4*k:=by
 induction k with
 |zero=>simp[zO,total]
 |succ k ih=>
  unfold zO;rw[dh];have:(if ok k=true then b1 (bt s k) else KU (bt s k)).size<=4:=by
   split
   .show 1<=4;omega
   .show 4<=4;omega
  simp only[total];omega
theorem mO(a:BY):a++aA=a:=by
 apply ByteArray.ext
 rw[ByteArray.data_append];simp[aA]
theorem Ig(ok:Nat->Bool)(s:BY)(k:Nat):zO ok s (k+1)=zO ok s k++[if ok k=true then b1 (bt s k) else KU (bt s k)]:=rfl
theorem ach(ok:Nat->UInt8->Bool)(s:BY):∀(n k:Nat),k+n=s.size->aG (zO (fun i=>ok i (bt s i)) s k)++BP ok k (s.data.toList.drop k)=aG (zO (fun i=>ok i (bt s i)) s s.size):=by
 intro n;induction n with
 |zero=>intro k h;have:k=s.size:=oo;subst this;rw[List.drop_of_length_le (by rw[Array.length_toList];exact Nat.le_refl _)];show aG _++aA=_;exact mO _
 |succ n ih=>
  intro k h;have hk:k<s.data.toList.length:=by simp only[Array.length_toList];show k<s.size;omega
  rw[List.drop_eq_getElem_cons hk];have hb:s.data.toList[k]=bt s k:=by rw[MJ (show k<s.size by omega)];rfl
  rw[hb];unfold BP;have:=ih (k+1) oo;rw[Ig,dw,ByteArray.append_assoc]at this;exact this
theorem Cb(ok:Nat->UInt8->Bool)(s:BY):BP ok 0 s.data.toList=aG (zO (fun i=>ok i (bt s i)) s s.size):=by have:=ach ok s s.size 0 oo;simpa[zO,aG]using this
theorem aiT{s:BY}{k:Nat}(h:k<s.size):one s k=b1 (bt s k):=by
 rw[MJ h];unfold one b1;apply ByteArray.ext
 rw[ByteArray.data_extract];apply Array.ext
 .simp;omega
 .intro i h1 h2;simp at h2;subst h2;simp;rfl
theorem vG(s:BY)(g:Nat)(cs:Array Av)(ok:Nat->Bool)(w:WD)(hs:s.size<=4000000)
  (hg:∀(args:Array Av) (w:WD),(callFunc g args).run prog w=.ok (.enter g args) w)
  (hf:∀i,i<s.size->∀w',Below w.heap.size w w'->Calls prog g (#[.int .i64 (i:Int)]++cs) w' fun ex w''=>ex=.returned (.bool (ok i))/\Below w'.heap.size w' w''):
  Calls prog 249 #[.string s,.func (.func g) #[] cs] w fun e w'=>e=.returned (.string (aG (zO ok s s.size)))/\Below w.heap.size w w':=by
 have HF:=hid hf;clear hf;obtain⟨iS,wK⟩:=info_str;have HI:=hid wK;clear wK;go_in;go_wp2_with fail;go_loopg[5,9] s.size (fun gg v5 v wr=>∃(u:Av) (k:Nat),u=v5/\k+gg=s.size/\v=.int .i64 (k:Int)/\Aside (wr.ownsRow w.heap.size 9 1 u k ((zO ok s k).map Value.string)/\Below w.heap.size w wr));case atStart=>exact⟨_,0,rfl,oo,rfl,World.ownsRow_nil _ _ _ _,Ax⟩
 case round=>
  obtain⟨u,k,rfl,hk,rfl,hA⟩:=hrel;have O1:=hid hA.o.1;have B1:=hid hA.o.2;clear hA;have hsz:=B1.o.size;by_cases hlt:k<s.size
  .have h1:(k:Int)<(s.size:Int):=oo;have hc:=HF.o k hlt wr B1.o;have HC:=hid hc;clear hc;have hw1:IntKind.i64.wrap ((k:Int)+1)=(k:Int)+1:=by rw[IntKind.wrap_i64];omega
   have hsl:=aiS s k hlt;rw[aiT hlt]at hsl;have hix:=gQ s k hlt;rw[Ie hlt]at hix;go_wp2_with fail;refine HC.o.mono ?_;obtain⟨b,Hb⟩:=Nm (ok k);rw[Hb.o];rintro e w1 ⟨rfl,hb1⟩;have B2:=hid (B1.o.trans (hb1.mono hsz));have O2:Hid (w1.ownsRow w.heap.size 9 1 u k ((zO ok s k).map Value.string)):=aP O1.o fun r hr=>hb1.block r (O1.o.lt r hr).2;have hsz2:=B2.o.size;clear hb1;cases b;focus
    go_wp2_with fail;refine pmb (ZY (bt s k) _) fun w2 hb2=>?_;have B3:=hid (B2.o.trans (hb2.mono hsz2));have O3:Hid (w2.ownsRow w.heap.size 9 1 u k ((zO ok s k).map Value.string)):=aP O2.o fun r hr=>hb2.block r (O2.o.lt r hr).2;have hsz3:=B3.o.size;clear hb2;have HP:Hid (zO ok s (k+1)=zO ok s k++[KU (bt s k)]):=by show _=_;rw[Ig,Hb.o];rfl
    go_wp2_with(at_builtin;go_must(refine wpList_append_own _ rfl _ _ 26 rfl w.heap.size 9 iS (.string ⟨#[]⟩) 1 16 Tryz.underlying26 HI.o.1 HI.o.2.1 HI.o.2.2.1 HI.o.2.2.2 rfl oo u k ((zO ok s k).map Value.string) rfl (O3.o.alloc _) ⟨w2.heap.size,0,none⟩ 1 1 [.string (KU (bt s k))] rfl rfl (cell_one_new _ _ _) (aT _) As oo An ?_));intro v4 w4 hown4 dS _;have O4:Hid (w4.ownsRow w.heap.size 9 1 v4 (k+1) ((zO ok s (k+1)).map Value.string)):=by show World.ownsRow _ _ _ _ _ _ _;rw[HP.o,List.map_append];exact hown4
    have B4:Hid (Below w.heap.size w w4):=(B3.o.alloc hsz3 _).grown dS An (fun rr hr=>(O3.o.lt rr hr).1)
   rotate_left;focus
    have HP:Hid (zO ok s (k+1)=zO ok s k++[b1 (bt s k)]):=by show _=_;rw[Ig,Hb.o];rfl
    go_wp2_with(at_builtin;go_must(refine wpList_append_own _ rfl _ _ 26 rfl w.heap.size 9 iS (.string ⟨#[]⟩) 1 16 Tryz.underlying26 HI.o.1 HI.o.2.1 HI.o.2.2.1 HI.o.2.2.2 rfl oo u k ((zO ok s k).map Value.string) rfl (O2.o.alloc _) ⟨w1.heap.size,0,none⟩ 1 1 [.string (b1 (bt s k))] rfl rfl (cell_one_new _ _ _) (aT _) As oo An ?_));intro v4 w4 hown4 dS _;have O4:Hid (w4.ownsRow w.heap.size 9 1 v4 (k+1) ((zO ok s (k+1)).map Value.string)):=by show World.ownsRow _ _ _ _ _ _ _;rw[HP.o,List.map_append];exact hown4
    have B4:Hid (Below w.heap.size w w4):=(B2.o.alloc hsz2 _).grown dS An (fun rr hr=>(O2.o.lt rr hr).1)
   rotate_left;all_goals
    clear hown4 dS;go_wp2_with fail;go_roundg(gk-1);case measure=>omega
    case rel=>exact⟨v4,k+1,rfl,oo,by congr 1,O4.o,B4.o⟩
  .have h1:(s.size:Int)<=(k:Int):=oo;have hke:k=s.size:=oo;subst hke;have hpt:=Ej ok s s.size;have hpl:=afX ok s s.size;have O5:Hid (wr.ownsRow w.heap.size 9 1 u (zO ok s s.size).length ((zO ok s s.size).map Value.string)):=by show World.ownsRow _ _ _ _ _ _ _;rw[hpl];exact O1.o
   go_wp2_with fail;refine pmb (dQ (zO ok s s.size) w.heap.size u _ O5.o oo oo) fun w5 hb5=>?_;have B5:=hid (B1.o.trans (hb5.mono hsz));clear hb5;go_wp2_with fail;go_ret;exact⟨rfl,B5.o⟩
def bU(w:WD)(b:Nat)(v:Av)(T:TypeId):Prop:=w.heap[b]?=some (.cells #[v] T (0,0))
theorem bU.c{w:WD}{b:Nat}{v:Av}{T:TypeId}(h:bU w b v T):w.cell? ⟨b,0,none⟩=some v:=by unfold World.cell?;rw[show w.heap[b]?=_ from h];rfl
theorem bU.lt{w:WD}{b:Nat}{v:Av}{T:TypeId}(h:bU w b v T):b<w.heap.size:=(Ay h)
theorem bU.below{w w':WD}{b:Nat}{v:Av}{T:TypeId}{g:Nat}(h:bU w b v T)(hb:Below g w w')(hg:b<g):bU w' b v T:=by unfold bU;rw[hb.block _ hg];exact h
theorem bU.new(w:WD)(v:Av)(T:TypeId):bU (w.alloc (.cells #[v] T)) w.heap.size v T:=heap_alloc_new w _
theorem bU.alloc{w:WD}{b:Nat}{v:Av}{T:TypeId}(h:bU w b v T)(o:Obj):bU (w.alloc o) b v T:=by unfold bU;rw[Below.heap_alloc _ _ _ h.lt];exact h
theorem nI:∀(fn:Fn) (first cap:Array Av) (w:WD),(Instr.makeFunc fn first cap).run prog w=.ok (.func fn first cap) w:=fun _ _ _ _=>rfl
def pnI(c:Int)(i:Nat)(p0:Int)(n:Nat):Bool:=if (wlI c||c==95)=true then true else if (c==45)=true then decide (1<n) else if wdI c=true then(decide (1<i)||(i==1&&!(p0==45))) else false
theorem aiU{s:BY}{i:Nat}(h:i<s.size):pnI (pk s i) i (pk s 0) s.size=dZ s i (bt s i):=by
 rw[Ie h];unfold pnI dZ;rw[aii,aij,<-show(bt s i==95)=(((bt s i).toNat:Int)==95) from tZ _ 95 oo,<-show(bt s i==45)=(((bt s i).toNat:Int)==45) from tZ _ 45 oo];generalize bt s i=c at *;by_cases h1:c=45
 .subst h1;have e1:oU 45=false:=by decide
  have e2:oV 45=false:=by decide
  rw[e1,e2];simp;rw[Bool.eq_iff_iff];simp;omega
 .have h1':(c==45)=false:=by simpa using h1
  rw[h1'];cases hd:oV c
  .cases hl:oU c<;>cases h5:(c==95)<;>simp[h1]
  .have hl:oU c=false:=by
    unfold oV at hd;unfold oU;rw[Bool.eq_false_iff];simp at *;omega
   have h5:(c==95)=false:=by unfold oV at hd;rw[beq_eq_false_iff_ne];rintro rfl;simp at hd
   rw[hl,h5];simp;generalize pk s 0=q;rw[Bool.eq_iff_iff];simp;omega
theorem Fj(s:BY)(i:Nat)(w:WD)(hi:i<s.size)(hs:s.size<=4000000):
  Calls prog 251 #[.string s,.int .i64 (i:Int)] w fun e w'=>e=.returned (.bool (dZ s i (bt s i)))/\w'=w:=by
 rw[<-aiU hi];have hix:=gQ s i hi;have hix0:=gQ s 0 oo;have h0:(i:Int)<(s.size:Int):=oo;have h00:(0:Int)<(s.size:Int):=oo;obtain⟨c,Hc⟩:=Nm (pk s i);obtain⟨q,Hq⟩:=Nm (pk s 0);rw[Hc.o]at hix⊢;rw[Hq.o]at hix0⊢;have E0:∀h:0<s.size,((s[0]'h).toNat:Int)=q:=fun h=>by rw[<-Hq.o,Ie h,MJ h]
 have HE0:=hid E0;clear Hc Hq E0;have HD:Hid (pnI c i q s.size=if (wlI c||c==95)=true then true else if (c==45)=true then decide (1<s.size) else if wdI c=true then(decide (1<i)||(i==1&&!(q==45))) else false):=rfl;cases h1:wlI c
 .cases h2:(c==95)
  .cases h3:(c==45)
   .cases h4:wdI c
    .have HV:Hid (pnI c i q s.size=false):=by show _=_;rw[HD.o,h1,h2,h3,h4];rfl
     go_in;go_wp2_with(first|(go_at_call 294;refine(mZ _ _).mono ?_;rintro e w' ⟨rfl,rfl⟩)|(go_at_call 295;refine(pW _ _).mono ?_;rintro e w' ⟨rfl,rfl⟩));go_ret;exact⟨aC HV.o.symm,rfl⟩
    .have HV:Hid (pnI c i q s.size=(decide (1<i)||(i==1&&!(q==45)))):=by show _=_;rw[HD.o,h1,h2,h3,h4];rfl
     by_cases h5:1<i
     .have h5':(1:Int)<(i:Int):=oo;have HW:Hid (pnI c i q s.size=true):=by show _=_;rw[HV.o,decide_eq_true h5];rfl
      go_in;go_wp2_with(first|(go_at_call 294;refine(mZ _ _).mono ?_;rintro e w' ⟨rfl,rfl⟩)|(go_at_call 295;refine(pW _ _).mono ?_;rintro e w' ⟨rfl,rfl⟩));go_ret;exact⟨aC HW.o.symm,rfl⟩
     .have h5':(i:Int)<=1:=oo;by_cases h6:i=1
      .have h6':((i:Int)==1)=true:=by simp;omega
       have HW:Hid (pnI c i q s.size = !(q==45)):=by show _=_;rw[HV.o,decide_eq_false h5,h6];rfl
       clear h6 h5;go_in;go_wp2_with(first|(go_at_call 294;refine(mZ _ _).mono ?_;rintro e w' ⟨rfl,rfl⟩)|(go_at_call 295;refine(pW _ _).mono ?_;rintro e w' ⟨rfl,rfl⟩));go_ret;exact⟨aC (by rw[HW.o,decide_eq_false oo,HE0.o oo];rfl),rfl⟩
      .have h6':((i:Int)==1)=false:=by simp;omega
       have HW:Hid (pnI c i q s.size=false):=by show _=_;rw[HV.o,decide_eq_false h5,show(i==1)=false by simpa using h6];rfl
       go_in;go_wp2_with(first|(go_at_call 294;refine(mZ _ _).mono ?_;rintro e w' ⟨rfl,rfl⟩)|(go_at_call 295;refine(pW _ _).mono ?_;rintro e w' ⟨rfl,rfl⟩));go_ret;exact⟨aC (by rw[HW.o,decide_eq_false oo]),rfl⟩
   .have HV:Hid (pnI c i q s.size=decide ((1:Int)<(s.size:Int))):=by show _=_;rw[HD.o,h1,h2,h3];simp;omega
    go_in;go_wp2_with(first|(go_at_call 294;refine(mZ _ _).mono ?_;rintro e w' ⟨rfl,rfl⟩)|(go_at_call 295;refine(pW _ _).mono ?_;rintro e w' ⟨rfl,rfl⟩));go_ret;exact⟨aC HV.o.symm,rfl⟩
  .have HV:Hid (pnI c i q s.size=true):=by show _=_;rw[HD.o,h1,h2];rfl
   go_in;go_wp2_with(first|(go_at_call 294;refine(mZ _ _).mono ?_;rintro e w' ⟨rfl,rfl⟩)|(go_at_call 295;refine(pW _ _).mono ?_;rintro e w' ⟨rfl,rfl⟩));go_ret;exact⟨aC HV.o.symm,rfl⟩
 .have HV:Hid (pnI c i q s.size=true):=by show _=_;rw[HD.o,h1];rfl
  go_in;go_wp2_with(first|(go_at_call 294;refine(mZ _ _).mono ?_;rintro e w' ⟨rfl,rfl⟩)|(go_at_call 295;refine(pW _ _).mono ?_;rintro e w' ⟨rfl,rfl⟩));go_ret;exact⟨aC HV.o.symm,rfl⟩
theorem afY(s:BY)(i b:Nat)(w:WD)(hi:i<s.size)(hs:s.size<=4000000)(hb:bU w b (.string s) 9):
  Calls prog 250 #[.int .i64 (i:Int),.pointer (some ⟨b,0,none⟩)] w fun e w'=>e=.returned (.bool (dZ s i (bt s i)))/\Below w.heap.size w w':=by
 have c0:=hb.c;go_in;go_wp2_with fail;refine pmb (Fj s i _ hi hs) fun wq hwq=>?_;rw[hwq];go_wp2_with fail;go_ret;exact⟨rfl,Ax⟩
theorem afZ(s:BY)(i b:Nat)(w:WD)(hi:i<s.size)(hb:bU w b (.string s) 9):
  Calls prog 277 #[.int .i64 (i:Int),.pointer (some ⟨b,0,none⟩)] w fun e w'=>e=.returned (.bool (jO (bt s i)))/\Below w.heap.size w w':=by
 have c0:=hb.c;have hix:=gQ s i hi;rw[Ie hi]at hix;have h0:(i:Int)<(s.size:Int):=oo;rw[<-akM];go_in;go_wp2_with fail;refine pmb (QA _ _) fun wq hwq=>?_;rw[hwq];go_wp2_with fail;go_ret;exact⟨rfl,Ax⟩
theorem af0(s:BY)(i b:Nat)(w:WD)(hi:i<s.size)(hb:bU w b (.string s) 9):
  Calls prog 280 #[.int .i64 (i:Int),.pointer (some ⟨b,0,none⟩)] w fun e w'=>e=.returned (.bool (xH (bt s i)))/\Below w.heap.size w w':=by
 have c0:=hb.c;have hix:=gQ s i hi;rw[Ie hi]at hix;have h0:(i:Int)<(s.size:Int):=oo;rw[<-akN];go_in;go_wp2_with fail;refine pmb (QB _ _) fun wq hwq=>?_;rw[hwq];go_wp2_with fail;go_ret;exact⟨rfl,Ax⟩
theorem oW(s:BY)(w:WD)(hs:s.size<=4000000):Calls prog 190 #[.string s] w fun e w'=>e=.returned (.string (dP s))/\Below w.heap.size w w':=by
 have hmf:=nI;have V1:Hid (bU (w.alloc (.cells #[.string s] 9)) w.heap.size (.string s) 9):=bU.new _ _ _;have B1:Hid (Below w.heap.size w (w.alloc (.cells #[.string s] 9))):=Ax.alloc nl _;have c0:=V1.o.c;have HV:Hid (dP s=aG (zO (fun i=>dZ s i (bt s i)) s s.size)):=Cb _ s;go_in;go_wp2_with fail;generalize w.alloc (.cells #[.string s] 9)=w2 at *;refine(vG s _ _ (fun i=>dZ s i (bt s i)) w2 hs (fun _ _=>rfl) ?_).mono ?_
 .intro i hi w' hb';exact afY s i _ w' hi hs (V1.o.below hb' V1.o.lt)
 .rintro e wq ⟨rfl,hwq⟩;have B3:=hid (AC B1.o hwq);clear hwq;go_wp2_with fail;go_ret;exact⟨by rw[HV.o];rfl,B3.o⟩
theorem aci(s:BY)(w:WD)(hs:s.size<=4000000):Calls prog 229 #[.string s] w fun e w'=>e=.returned (.string (xG s))/\Below w.heap.size w w':=by
 have hmf:=nI;have V1:Hid (bU (w.alloc (.cells #[.string s] 9)) w.heap.size (.string s) 9):=bU.new _ _ _;have B1:Hid (Below w.heap.size w (w.alloc (.cells #[.string s] 9))):=Ax.alloc nl _;have c0:=V1.o.c;obtain⟨m,Hm⟩:=Nm (aG (zO (fun i=>jO (bt s i)) s s.size));have HV:Hid (xG s=aG [⟨#[34]⟩,m,⟨#[34]⟩]):=by show _=_;unfold xG;rw[Cb,Hm.o];simp[aG,aiR,b1]
 have hms:m.size<=16000000:=by rw[<-Hm.o,oQ];have:=Ej (fun i=>jO (bt s i)) s s.size;omega
 go_in;go_wp2_with fail;generalize w.alloc (.cells #[.string s] 9)=w2 at *;refine(vG s _ _ (fun i=>jO (bt s i)) w2 hs (fun _ _=>rfl) ?_).mono ?_
 .intro i hi w' hb';exact afZ s i _ w' hi (V1.o.below hb' V1.o.lt)
 .rw[Hm.o];rintro e wq ⟨rfl,hwq⟩;have B3:=hid (AC B1.o hwq);have hs3:=B3.o.size;clear hwq c0;go_wp2_with fail;refine pmb (dQ [⟨#[34]⟩,m,⟨#[34]⟩] wq.heap.size _ _ (row3 wq ⟨#[34]⟩ m ⟨#[34]⟩) Ab (by show 1+(m.size+(1+0))<=_;omega)) fun w5 hb5=>?_;have B5:Hid (Below w.heap.size w w5):=(B3.o.alloc hs3 _).trans (hb5.mono An);clear hb5;go_wp2_with fail;go_ret;exact⟨by rw[HV.o];rfl,B5.o⟩
