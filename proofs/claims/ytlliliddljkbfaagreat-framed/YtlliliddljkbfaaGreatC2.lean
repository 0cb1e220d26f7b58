import Derived.Test.YtlliliddljkbfaaGreatC1
import Derived.Deep.RegionHeld3
set_option maxHeartbeats 64000000
set_option maxRecDepth 100000
namespace Go.Proofs.YtlliliddljkbfaaGreat
open Go.Proofs.Tryz (prog)
open Go.RowKit Sp
theorem Fh(n m:Nat)(hn:n<=255)(W:WD)(hW:W.heap.size=m):
  (convert 145 9 (.slice (some ⟨m,0,none⟩) 1 1)).run prog (W.alloc (.cells #[.int .u8 (n:Int)] 5))=.ok (.string (E8 n)) (W.alloc (.cells #[.int .u8 (n:Int)] 5)):=by
 subst hW;refine run_convert_bytes_back (P:=prog) _ 145 9 5 _ 1 [UInt8.ofNat n] Tryz.underlying145 Tryz.underlying5 Tryz.underlying9 ?_;intro j hj;obtain rfl:j=0:=by simpa using hj
 have e:((⟨W.heap.size,0,none⟩:Addr).add 0)=⟨W.heap.size,0,none⟩:=rfl;rw[e,World.cell?_alloc_mark];simp;omega
theorem BU(s:BY)(b i:Nat)(w:WD)(h:Sc w b s i)(hi:i<s.size):
  Calls prog 239 #[.pointer (some ⟨b,0,none⟩)] w fun e w'=>e=.returned (.string (esc s i).1)/\aB b s (esc s i).2 w w':=by
 have W:Hid (aB b s i w w):=aB.refl h;clear h;have c00:=W.o.1.c0;have c10:=W.o.1.c1;have KY:=W.o.1.f1;have KZ:=W.o.1.lt;have cs0:=W.o.1.len;have La:=W.o.1.le;go_in;go_wp2_with fail;refine ji (fun Q' hF=>?_);go_wp2_with fail;go_loopg[3,4] 6 (fun g n3 n4 wr=>∃d n:Nat,d+g=6/\n<16 ^ d/\n3=.int .i64 (n:Int)/\n4=.int .i64 (d:Int)/\Aside (tJ s g (i+1+d) n=tJ s 6 (i+1) 0/\aB b s (i+1+d) w wr));case atStart=>exact⟨0,0,oo,by decide,rfl,rfl,rfl,W.o.iP _ (i+1) oo oo⟩
 case round=>
  obtain⟨d,n,hd,hn,rfl,rfl,hA⟩:=hrel;have H1:=hid hA.o.1;have H2':Hid (aB b s (i+1+d) w wr):=hA.o.2;clear hA;obtain⟨k,HK⟩:∃k,Hid (k=i+1+d):=⟨_,rfl⟩;have H2:Hid (aB b s k w wr):=by show aB b s k w wr;rw[HK.o];exact H2'.o
  clear H2';have c02:=H2.o.1.c0;have c12:=H2.o.1.c1;have cf2:=H2.o.1.f1;have cl2:=H2.o.1.lt;have cs2:=H2.o.1.len;have ce2:=H2.o.1.le;have hkd:i+1+d<=k:=by have:=HK.o;omega
  have anf:k<=i+1+d:=by have:=HK.o;omega
  have hnb:n<16777216:=by
   have h1:16 ^ d<=16 ^ 6:=Nat.pow_le_pow_right oo oo;have h2:(16:Nat) ^ 6=16777216:=by decide
   omega
  have HP:=hid hn;clear hn;by_cases h6:d<6
  .have hlo:=abT s k;have hhi:=Yj s k;have hxl:=aiK (pk s k);have hxh:=aiJ (pk s k);obtain⟨f,rfl⟩:∃f,gk=f+1:=⟨gk-1,oo⟩;by_cases hx:0<=xk (pk s k)
   .have hlt:k<s.size:=dY (abV hx);have HV:Hid (tJ s f (i+1+(d+1)) (n*16+(xk (pk s k)).toNat)=tJ s 6 (i+1) 0):=by
     show _=_;rw[<-H1.o];conv=>rhs;unfold tJ
     have e:=HK.o;rw[<-e,if_pos hx,e];rfl
    have HN:Hid (n*16+(xk (pk s k)).toNat<16 ^ (d+1)):=by show _<_;rw[Nat.pow_succ];have:=HP.o;omega
    go_wp2_with fail;refine cZ (ak s b (k) _ (k) _ (H2.o.1) ⟨oo,oo,oo⟩) fun nq=>?_;go_wp2_with fail;refine jA (Ag _ _ oo oo) ?_;go_wp2_with fail;go_roundg f;case measure=>omega
    case rel=>exact⟨d+1,n*16+(xk (pk s k)).toNat,oo,HN.o,by congr 1;omega,by congr 1,HV.o,(H2.o.drewN _).iP _ _ oo oo⟩
   .have hx':xk (pk s k)<0:=oo;have HR:Hid (tJ s 6 (i+1) 0=(n,k)):=by
     show _=_;rw[<-H1.o,<-HK.o];unfold tJ;rw[if_neg hx]
    by_cases hd0:d=0
    .have akL:((d:Int)==0)=true:=by simp[hd0]
     have HD:=hid hd0;clear hd0;have hde:d<=0:=by have:=HD.o;omega
     go_wp2_with fail;refine cZ (ak s b (k) _ (k) _ (H2.o.1) ⟨oo,oo,oo⟩) fun nq=>?_;go_wp2_with fail;refine jA (Ag _ _ oo oo) ?_;go_wp2_with fail;go_step3
     refine hF.go 0 _ _ _ rfl ?_;clear hF;by_cases hks:k<s.size
     .have HV:Hid (esc s i=(one s k,k+1)):=by
       show esc s i=_;have e:k=i+1:=oo;unfold esc;dsimp only;rw[HR.o,if_pos (by show k=i+1;omega),<-e,if_pos hks,show i+2=k+1 by omega]
      go_wp2_with fail;refine pmb (Ic s b k _ (H2.o.1.drewN _) hks) fun w1 aj=>?_;have W1:Hid (aB b s (k+1) w w1):=(H2.o.drewN _).trans aj;clear aj;go_wp2_with fail;try rw[Exit.noGoto_ret]
      go_ret;rw[HV.o];exact⟨rfl,W1.o⟩
     .have HV:Hid (esc s i=(Ec,k)):=by
       show esc s i=_;have e:k=i+1:=oo;unfold esc;dsimp only;rw[HR.o,if_pos (by show k=i+1;omega),<-e,if_neg hks]
      go_wp2_with fail;refine pmb (FV s b k _ (H2.o.1.drewN _) oo) fun w1 aj=>?_;have W1:Hid (aB b s (k) w w1):=(H2.o.drewN _).trans aj;clear aj;go_wp2_with fail;try rw[Exit.noGoto_ret]
      go_ret;rw[HV.o];exact⟨rfl,W1.o⟩
    .have akL:((d:Int)==0)=false:=by simp[hd0]
     have hdp:0<d:=oo;clear hd0;go_wp2_with fail;refine cZ (ak s b (k) _ (k) _ (H2.o.1) ⟨oo,oo,oo⟩) fun nq=>?_;go_wp2_with fail;refine jA (Ag _ _ oo oo) ?_;go_wp2_with fail;go_step3
     refine hF.go 0 _ _ _ rfl ?_;clear hF;cases hbl:aO (pk s k)
     .by_cases hn1:n<1
      .have HV:Hid (esc s i=(Ec,k)):=by
        show esc s i=_;unfold esc;dsimp only;rw[HR.o];dsimp only;rw[if_neg oo,if_neg oo,if_neg (by simp[hbl])]
       go_wp2_with fail;refine cZ (ak s b (k) _ (k) _ (H2.o.1.drewN _) ⟨oo,oo,oo⟩) fun nq=>?_;go_wp2_with fail;refine jA (aW _ _) ?_;go_wp2_with fail;try rw[Exit.noGoto_ret]
       go_ret;rw[HV.o];exact⟨rfl,(H2.o.drewN _)⟩
      .by_cases hn2:255<n
       .have HV:Hid (esc s i=(Ec,k)):=by
         show esc s i=_;unfold esc;dsimp only;rw[HR.o];dsimp only;rw[if_neg oo,if_neg oo,if_neg (by simp[hbl])]
        go_wp2_with fail;refine cZ (ak s b (k) _ (k) _ (H2.o.1.drewN _) ⟨oo,oo,oo⟩) fun nq=>?_;go_wp2_with fail;refine jA (aW _ _) ?_;go_wp2_with fail;try rw[Exit.noGoto_ret]
        go_ret;rw[HV.o];exact⟨rfl,(H2.o.drewN _)⟩
       .have hcv:=Fh n wr.heap.size oo;have hcv0:=fun q=>Fh n wr.heap.size oo (wr.drewN q) rfl;have HV:Hid (esc s i=(E8 n,k)):=by
         show esc s i=_;unfold esc;dsimp only;rw[HR.o];dsimp only;rw[if_neg oo,if_pos ⟨oo,oo⟩,if_neg (by simp[hbl])]
        go_wp2_with fail;refine cZ (ak s b (k) _ (k) _ (H2.o.1.drewN _) ⟨oo,oo,oo⟩) fun nq=>?_;go_wp2_with fail;refine jA (aW _ _) ?_;go_wp2_with fail;try rw[Exit.noGoto_ret]
        go_ret;rw[HV.o];exact⟨rfl,(H2.o.drewN _).alloc _⟩
     .by_cases hn1:n<1
      .have hlt:k<s.size:=dY (lZ hbl);have HV:Hid (esc s i=(Ec,k+1)):=by
        show esc s i=_;unfold esc;dsimp only;rw[HR.o];dsimp only;rw[if_neg oo,if_neg oo,if_pos hbl]
       go_wp2_with fail;refine cZ (ak s b (k) _ (k) _ (H2.o.1.drewN _) ⟨oo,oo,oo⟩) fun nq=>?_;go_wp2_with fail;refine jA (aW _ _) ?_;go_wp2_with fail;try rw[Exit.noGoto_ret]
       go_ret;rw[HV.o];exact⟨rfl,((H2.o.drewN _).iP _ (k+1) oo oo)⟩
      .by_cases hn2:255<n
       .have hlt:k<s.size:=dY (lZ hbl);have HV:Hid (esc s i=(Ec,k+1)):=by
         show esc s i=_;unfold esc;dsimp only;rw[HR.o];dsimp only;rw[if_neg oo,if_neg oo,if_pos hbl]
        go_wp2_with fail;refine cZ (ak s b (k) _ (k) _ (H2.o.1.drewN _) ⟨oo,oo,oo⟩) fun nq=>?_;go_wp2_with fail;refine jA (aW _ _) ?_;go_wp2_with fail;try rw[Exit.noGoto_ret]
        go_ret;rw[HV.o];exact⟨rfl,((H2.o.drewN _).iP _ (k+1) oo oo)⟩
       .have hlt:k<s.size:=dY (lZ hbl);have hcv:=Fh n wr.heap.size oo;have hcv0:=fun q=>Fh n wr.heap.size oo (wr.drewN q) rfl;have HV:Hid (esc s i=(E8 n,k+1)):=by
         show esc s i=_;unfold esc;dsimp only;rw[HR.o];dsimp only;rw[if_neg oo,if_pos ⟨oo,oo⟩,if_pos hbl]
        go_wp2_with fail;refine cZ (ak s b (k) _ (k) _ (H2.o.1.drewN _) ⟨oo,oo,oo⟩) fun nq=>?_;go_wp2_with fail;refine jA (aW _ _) ?_;go_wp2_with fail;try rw[Exit.noGoto_ret]
        go_ret;rw[HV.o];exact⟨rfl,((H2.o.drewN _).iP _ (k+1) oo oo).alloc _⟩
  .have akL:((d:Int)==0)=false:=by simp;omega
   have HR:Hid (tJ s 6 (i+1) 0=(n,k)):=by show _=_;obtain rfl:gk=0:=oo;rw[<-H1.o,<-HK.o];rfl
   go_wp2_with fail;go_step3
   cases hbl:aO (pk s k)
   .by_cases hn1:n<1
    .have HV:Hid (esc s i=(Ec,k)):=by
      show esc s i=_;unfold esc;dsimp only;rw[HR.o];dsimp only;rw[if_neg oo,if_neg oo,if_neg (by simp[hbl])]
     go_wp2_with fail;refine cZ (ak s b (k) _ (k) _ (H2.o.1) ⟨oo,oo,oo⟩) fun nq=>?_;go_wp2_with fail;refine jA (aW _ _) ?_;go_wp2_with fail;refine hF.ret _ _ ?_;go_ret;rw[HV.o];exact⟨rfl,(H2.o.drewN _)⟩
    .by_cases hn2:255<n
     .have HV:Hid (esc s i=(Ec,k)):=by
       show esc s i=_;unfold esc;dsimp only;rw[HR.o];dsimp only;rw[if_neg oo,if_neg oo,if_neg (by simp[hbl])]
      go_wp2_with fail;refine cZ (ak s b (k) _ (k) _ (H2.o.1) ⟨oo,oo,oo⟩) fun nq=>?_;go_wp2_with fail;refine jA (aW _ _) ?_;go_wp2_with fail;refine hF.ret _ _ ?_;go_ret;rw[HV.o];exact⟨rfl,(H2.o.drewN _)⟩
     .have hcv:=Fh n wr.heap.size oo;have hcv0:=fun q=>Fh n wr.heap.size oo (wr.drewN q) rfl;have HV:Hid (esc s i=(E8 n,k)):=by
       show esc s i=_;unfold esc;dsimp only;rw[HR.o];dsimp only;rw[if_neg oo,if_pos ⟨oo,oo⟩,if_neg (by simp[hbl])]
      go_wp2_with fail;refine cZ (ak s b (k) _ (k) _ (H2.o.1) ⟨oo,oo,oo⟩) fun nq=>?_;go_wp2_with fail;refine jA (aW _ _) ?_;go_wp2_with fail;refine hF.ret _ _ ?_;go_ret;rw[HV.o];exact⟨rfl,(H2.o.drewN _).alloc _⟩
   .by_cases hn1:n<1
    .have hlt:k<s.size:=dY (lZ hbl);have HV:Hid (esc s i=(Ec,k+1)):=by
      show esc s i=_;unfold esc;dsimp only;rw[HR.o];dsimp only;rw[if_neg oo,if_neg oo,if_pos hbl]
     go_wp2_with fail;refine cZ (ak s b (k) _ (k) _ (H2.o.1) ⟨oo,oo,oo⟩) fun nq=>?_;go_wp2_with fail;refine jA (aW _ _) ?_;go_wp2_with fail;refine hF.ret _ _ ?_;go_ret;rw[HV.o];exact⟨rfl,((H2.o.drewN _).iP _ (k+1) oo oo)⟩
    .by_cases hn2:255<n
     .have hlt:k<s.size:=dY (lZ hbl);have HV:Hid (esc s i=(Ec,k+1)):=by
       show esc s i=_;unfold esc;dsimp only;rw[HR.o];dsimp only;rw[if_neg oo,if_neg oo,if_pos hbl]
      go_wp2_with fail;refine cZ (ak s b (k) _ (k) _ (H2.o.1) ⟨oo,oo,oo⟩) fun nq=>?_;go_wp2_with fail;refine jA (aW _ _) ?_;go_wp2_with fail;refine hF.ret _ _ ?_;go_ret;rw[HV.o];exact⟨rfl,((H2.o.drewN _).iP _ (k+1) oo oo)⟩
     .have hlt:k<s.size:=dY (lZ hbl);have hcv:=Fh n wr.heap.size oo;have hcv0:=fun q=>Fh n wr.heap.size oo (wr.drewN q) rfl;have HV:Hid (esc s i=(E8 n,k+1)):=by
       show esc s i=_;unfold esc;dsimp only;rw[HR.o];dsimp only;rw[if_neg oo,if_pos ⟨oo,oo⟩,if_pos hbl]
      go_wp2_with fail;refine cZ (ak s b (k) _ (k) _ (H2.o.1) ⟨oo,oo,oo⟩) fun nq=>?_;go_wp2_with fail;refine jA (aW _ _) ?_;go_wp2_with fail;refine hF.ret _ _ ?_;go_ret;rw[HV.o];exact⟨rfl,((H2.o.drewN _).iP _ (k+1) oo oo).alloc _⟩
theorem aiS(s:BY)(k:Nat)(h:k<s.size)(w:WD):(Instr.slice 9 (.string s) (some (.int .i64 (k:Int))) (some (.int .i64 ((k:Int)+1))) none).run prog w=.ok (.string (one s k)) w:=by rw[run_slice_string_if w 9 s .i64 .i64 _ _ Tryz.underlying9,if_pos ⟨oo,oo⟩,if_pos ⟨oo,oo⟩];congr 3
def wlI(c:Int):Bool:=(decide (97<=c)&&decide (c<=122))||(decide (65<=c)&&decide (c<=90))
def wdI(c:Int):Bool:=decide (48<=c)&&decide (c<=57)
def wtI(c:Int):Bool:=decide (32<=c)&&decide (c<=126)&&!(c==34||c==92||c==60||c==62)
def wkI(c:Int):Bool:=wlI c||wdI c||c==46||c==47||c==58||c==45
theorem tZ(c:UInt8)(n:Nat)(hn:n<256):(c==UInt8.ofNat n)=((c.toNat:Int)==(n:Int)):=by
 rw[Bool.eq_iff_iff];simp;constructor
 .rintro rfl;simp;omega
 .intro h;apply UInt8.toNat_inj.1
  have:c.toNat=n:=oo;rw[this];simp;omega
theorem aii(c:UInt8):wlI (c.toNat:Int)=oU c:=by unfold wlI oU;rw[Bool.eq_iff_iff];simp;omega
theorem aij(c:UInt8):wdI (c.toNat:Int)=oV c:=by unfold wdI oV;rw[Bool.eq_iff_iff];simp;omega
theorem akM(c:UInt8):wtI (c.toNat:Int)=jO c:=by unfold wtI jO;rw[show(c==34)=((c.toNat:Int)==34) from tZ c 34 oo,show(c==92)=((c.toNat:Int)==92) from tZ c 92 oo,show(c==60)=((c.toNat:Int)==60) from tZ c 60 oo,show(c==62)=((c.toNat:Int)==62) from tZ c 62 oo];rw[Bool.eq_iff_iff];simp;omega
theorem akN(c:UInt8):wkI (c.toNat:Int)=xH c:=by unfold wkI xH;rw[aii,aij,show(c==46)=((c.toNat:Int)==46) from tZ c 46 oo,show(c==47)=((c.toNat:Int)==47) from tZ c 47 oo,show(c==58)=((c.toNat:Int)==58) from tZ c 58 oo,show(c==45)=((c.toNat:Int)==45) from tZ c 45 oo]
theorem mZ(c:Int)(w:WD):Calls prog 294 #[.int .u8 c] w fun e w'=>e=.returned (.bool (wlI c))/\w'=w:=by
 go_in;go_wp2
 all_goals
  go_ret;exact⟨aC (by rw[Bool.eq_iff_iff];simp[wlI, *]<;>omega),rfl⟩
theorem pW(c:Int)(w:WD):Calls prog 295 #[.int .u8 c] w fun e w'=>e=.returned (.bool (wdI c))/\w'=w:=by
 go_in;go_wp2
 all_goals
  go_ret;exact⟨aC (by rw[Bool.eq_iff_iff];simp[wdI, *]<;>omega),rfl⟩
theorem QA(c:Int)(w:WD):Calls prog 278 #[.int .u8 c] w fun e w'=>e=.returned (.bool (wtI c))/\w'=w:=by
 go_in;go_wp2
 all_goals
  go_ret;exact⟨aC (by rw[Bool.eq_iff_iff];simp[wtI, *]<;>omega),rfl⟩
theorem QB(c:Int)(w:WD):Calls prog 281 #[.int .u8 c] w fun e w'=>e=.returned (.bool (wkI c))/\w'=w:=by
 cases h1:wlI c<;>cases h2:wdI c
 all_goals
  go_in;go_wp2_with(first|(go_at_call 294;refine(mZ _ _).mono ?_;rintro e w' ⟨rfl,rfl⟩)|(go_at_call 295;refine(pW _ _).mono ?_;rintro e w' ⟨rfl,rfl⟩));all_goals
   go_ret;exact⟨aC (by rw[Bool.eq_iff_iff];simp[wkI, *]),rfl⟩
def hexT:BY:=⟨#[48,49,50,51,52,53,54,55,56,57,97,98,99,100,101,102]⟩
theorem afU:∀n:Nat,n<16->hexT.extract n (n+1)=b1 (hexD n):=by decide
theorem MI(n:Nat)(h:n<16)(w:WD):(Instr.slice 9 (.string ⟨#[48,49,50,51,52,53,54,55,56,57,97,98,99,100,101,102]⟩) (some (.int .u8 (n:Int))) (some (.int .u8 ((n:Int)+1))) none).run prog w=.ok (.string (b1 (hexD n))) w:=by rw[run_slice_string_if w 9 _ .u8 .u8 _ _ Tryz.underlying9,if_pos ⟨oo,by show(n:Int)+1<=((16:Nat):Int);omega⟩,if_pos ⟨oo,oo⟩];have:=afU n h;unfold hexT at this;rw[show((n:Int)+1).toNat=n+1 by omega,show((n:Int)).toNat=n by omega,this]
theorem row4(w:WD)(a b c d:BY):(w.alloc (.cells #[.string a,.string b,.string c,.string d] 9)).ownsRow w.heap.size 9 1 (.slice (some ⟨w.heap.size,0,none⟩) 4 4) 4 ([a,b,c,d].map Value.string):=⟨rfl,.inr ⟨w.heap.size,4,_,rfl,Nat.le_refl _,heap_alloc_new w _,Nat.le_refl _,by unfold maxLen;omega,rfl,rfl⟩⟩
theorem row3(w:WD)(a b c:BY):(w.alloc (.cells #[.string a,.string b,.string c] 9)).ownsRow w.heap.size 9 1 (.slice (some ⟨w.heap.size,0,none⟩) 3 3) 3 ([a,b,c].map Value.string):=⟨rfl,.inr ⟨w.heap.size,3,_,rfl,Nat.le_refl _,heap_alloc_new w _,Nat.le_refl _,by unfold maxLen;omega,rfl,rfl⟩⟩
theorem amn(w:WD)(a b c d e:BY):(w.alloc (.cells #[.string a,.string b,.string c,.string d,.string e] 9)).ownsRow w.heap.size 9 1 (.slice (some ⟨w.heap.size,0,none⟩) 5 5) 5 ([a,b,c,d,e].map Value.string):=⟨rfl,.inr ⟨w.heap.size,5,_,rfl,Nat.le_refl _,heap_alloc_new w _,Nat.le_refl _,by unfold maxLen;omega,rfl,rfl⟩⟩
theorem QC(n:Nat)(h:n<16):IntKind.u8.wrap ((n:Int)+1)=(n:Int)+1:=by rw[IntKind.wrap_u8];omega
theorem ZY(c:UInt8)(w:WD):Calls prog 293 #[.int .u8 (c.toNat:Int)] w fun e w'=>e=.returned (.string (KU c))/\Below w.heap.size w w':=by
 have hc:c.toNat<256:=c.toNat_lt;obtain⟨h,Hh⟩:=Nm (c.toNat/16);obtain⟨l,Hl⟩:=Nm (c.toNat%16);have hh:h<16:=by have:=Hh.o;omega
 have hl:l<16:=by have:=Hl.o;omega
 have HE:Hid (KU c=aG [⟨#[92]⟩,b1 (hexD h),b1 (hexD l),⟨#[32]⟩]):=by show _=_;unfold KU;rw[Hh.o,Hl.o];rfl
 have e1:IntKind.u8.wrap ((c.toNat:Int)/16)=(h:Int):=by have:=Hh.o;rw[IntKind.wrap_u8];omega
 have e2:IntKind.u8.wrap ((c.toNat:Int)%16)=(l:Int):=by have:=Hl.o;rw[IntKind.wrap_u8];omega
 have e3:((c.toNat:Int)/16)=(h:Int):=by have:=Hh.o;omega
 have e4:((c.toNat:Int)%16)=(l:Int):=by have:=Hl.o;omega
 have e5:=QC h hh;have e6:=QC l hl;have s1:=MI h hh;have s2:=MI l hl;go_in;go_wp2_with fail;refine wp_region_any Ao ?_;change wpAny _ _ _ _ _ _ _ (World.drew _);refine FT 0 ?_;refine FT 1 ?_;refine FT 2 ?_;refine FT 3 ?_;refine FT 4 ?_;refine FT 5 ?_;refine FT 6 ?_;refine FT 7 ?_;refine brA 8 fun K hK=>?_;go_simp;refine hK _ _ ?_;clear hK K;refine brA 9 fun K hK=>?_;go_simp;have B1:Hid (Below w.heap.size w ((w.alloc (.cells #[.string ⟨#[92]⟩,.string (b1 (hexD h)),.string (b1 (hexD l)),.string ⟨#[32]⟩] 9)).drew)):=(Ax.alloc nl _).drew
 have R1:Hid (World.ownsRow ((w.alloc (.cells #[.string ⟨#[92]⟩,.string (b1 (hexD h)),.string (b1 (hexD l)),.string ⟨#[32]⟩] 9)).drew) w.heap.size 9 1 (.slice (some ⟨w.heap.size,0,none⟩) 4 4) 4 ([⟨#[92]⟩,b1 (hexD h),b1 (hexD l),⟨#[32]⟩].map Value.string)):=row4 w ⟨#[92]⟩ (b1 (hexD h)) (b1 (hexD l)) ⟨#[32]⟩;generalize(w.alloc (.cells #[.string ⟨#[92]⟩,.string (b1 (hexD h)),.string (b1 (hexD l)),.string ⟨#[32]⟩] 9)).drew=w2 at *;have hs2:=B1.o.size;refine(dQ [⟨#[92]⟩,b1 (hexD h),b1 (hexD l),⟨#[32]⟩] w.heap.size _ _ R1.o Ab (by show 1+(1+(1+(1+0)))<=_;omega)).mono ?_;rw[<-HE.o];rintro e w5 ⟨rfl,hb5⟩;have B5:=hid (B1.o.trans (hb5.mono hs2));clear hb5;refine hK _ _ ?_;clear hK K;refine brA 10 fun K hK=>?_;go_simp;refine hK _ _ ?_;clear hK K;refine wpAny_done Ao ?_ _;go_wp2_with fail;go_ret
 exact⟨rfl,B5.o⟩
end Go.Proofs.YtlliliddljkbfaaGreat
namespace Go.Proofs.YtlliliddljkbfaaGreat.Sp
abbrev Stack:=List (Tok×List Nd)
def fin:Stack->List Tok->List Nd
 |[],_=>[]
 |[(_,ins)],ts=>ins++(kids aA ts).1
 |(t,ins)::(t2,Aq)::R,ts=>fin ((t2,Aq++[.mk t (ins++(kids (closing t) ts).1)])::R) (kids (closing t) ts).2
termination_by s=>s.length
def dst:Stack->Nat
 |[]=>0
 |(_,ins)::R=>max (R.length+depth ins) (dst R)
def lQ:Stack->Prop
 |[]=>False
 |[(t,_)]=>closing t=aA
 |(t,_)::r::R=>closing t≠aA/\lQ (r::R)
theorem y8(t:Tok)(ins:List Nd)(ts:List Tok):fin [(t,ins)] ts=ins++(kids aA ts).1:=by unfold fin;rfl
theorem vC(t t2:Tok)(ins Aq:List Nd)(R:Stack)(ts:List Tok):fin ((t,ins)::(t2,Aq)::R) ts=fin ((t2,Aq++[.mk t (ins++(kids (closing t) ts).1)])::R) (kids (closing t) ts).2:=by conv=>lhs;unfold fin
theorem Lc(t:Tok):closing t=aA\/closing t=b1 41\/closing t=b1 93\/closing t=b1 125:=by
 unfold closing;repeat' split
 all_goals simp
theorem QD{t t0:Tok}(h:au t (closing t0)=true)(h0:closing t0≠aA):closing t=aA:=by
 unfold au at h;simp at h;obtain⟨h1,h2⟩:=h;unfold closing;rw[if_neg (by omega),if_pos h1,h2];rcases Lc t0 with e|e|e|e
 .exact absurd e h0
 all_goals rw[e];decide
theorem acd{t:Tok}(h:closing t≠aA)(t0:Tok)(ins:List Nd)(R:Stack)(r:List Tok)(hO:lQ ((t0,ins)::R)):fin ((t,[])::(t0,ins)::R) r=fin ((t0,ins)::R) (t::r):=by
 have hi:inside t r=kids (closing t) r:=by unfold inside;rw[if_neg h]
 rw[vC];have hne:¬(closing t0≠aA/\au t (closing t0)=true):=fun q=>h (QD q.2 q.1);cases R with
 |nil=>rw[y8,y8,iy (fun q=>q.1 rfl),hi];simp
 |cons x R=>obtain⟨t2,Aq⟩:=x;rw[vC,vC,iy hne,hi];simp
theorem Z7{t t0:Tok}(ins:List Nd)(t2:Tok)(Aq:List Nd)(R:Stack)(r:List Tok)(h:au t (closing t0)=true)(h0:closing t0≠aA):fin ((t0,ins)::(t2,Aq)::R) (t::r)=fin ((t2,Aq++[.mk t0 ins])::R) r:=by rw[vC,qX ⟨h0,h⟩];simp
theorem ace{t:Tok}(h:closing t=aA)(t0:Tok)(ins:List Nd)(R:Stack)(r:List Tok)(hn:¬(closing t0≠aA/\au t (closing t0)=true)):fin ((t0,ins++[.mk t []])::R) r=fin ((t0,ins)::R) (t::r):=by
 have hi:inside t r=([],r):=by unfold inside;rw[if_pos h]
 cases R with
 |nil=>rw[y8,y8,iy (fun q=>q.1 rfl),hi];simp
 |cons x R=>obtain⟨t2,Aq⟩:=x;rw[vC,vC,iy hn,hi];simp
theorem afV(t0:Tok)(ins:List Nd)(t2:Tok)(Aq:List Nd)(R:Stack):fin ((t0,ins)::(t2,Aq)::R) []=fin ((t2,Aq++[.mk t0 ins])::R) []:=by rw[vC,jB];simp
theorem Z8(t0:Tok)(ins:List Nd)(t2:Tok)(Aq:List Nd)(R:Stack)(h0:closing t0≠aA):dst ((t2,Aq++[.mk t0 ins])::R)=dst ((t0,ins)::(t2,Aq)::R):=by simp only[dst,Ah,xE (n:=.mk t0 ins) h0,List.length_cons,Nd.BK];omega
theorem acf{t:Tok}(h:closing t=aA)(t0:Tok)(ins:List Nd)(R:Stack):dst ((t0,ins++[.mk t []])::R)=dst ((t0,ins)::R):=by simp only[dst,Ah,Qu (n:=.mk t []) h];omega
theorem acg(t:Tok)(R:Stack):dst ((t,[])::R)=max (dst R) R.length:=by simp only[dst,depth];omega
theorem lQ.ne{S:Stack}(h:lQ S):S≠[]:=by rintro rfl;exact h
theorem lQ.push{S:Stack}(h:lQ S){t:Tok}(ht:closing t≠aA)(ins:List Nd):lQ ((t,ins)::S):=by
 cases S with
 |nil=>exact h.elim
 |cons r R=>exact⟨ht,h⟩
theorem lQ.same{t:Tok}{i j:List Nd}{R:Stack}(h:lQ ((t,i)::R)):lQ ((t,j)::R):=by
 cases R with
 |nil=>exact h
 |cons r R=>exact h
theorem lQ.pop{t t2:Tok}{i i2 j:List Nd}{R:Stack}(h:lQ ((t,i)::(t2,i2)::R)):closing t≠aA/\lQ ((t2,j)::R):=⟨h.1,lQ.same (i:=i2) h.2⟩
theorem Z9(ts:List Tok):fin [(Tok.k 0,[])] ts=nodes ts:=by rw[y8];rfl
end Go.Proofs.YtlliliddljkbfaaGreat.Sp
namespace Go.Proofs.YtlliliddljkbfaaGreat
open Go.Proofs.Tryz (prog)
open Go.RowKit Sp
section
structure Fr where
 tok:Tok
 ins:List Nd
 v:Av
 cs:List Av
def Fr.cells(f:Fr):List Av:=[.int .i64 f.tok.kind,.string f.tok.word,.string f.tok.unit,.string (closing f.tok),f.v]
def BX(base:Nat)(w:WD)(v:Av)(L:List Fr)(b:Nat):Prop:=base<=b/\b<w.heap.size/\some b≠v.ownBlock/\∀f∈L,some b≠f.v.ownBlock
structure vF(base:Nat)(w:WD)(v:Av)(L:List Fr):Prop where
 row:w.ownsRow base 195 5 v L.length (L.flatMap Fr.cells)
 own:∀f∈L,w.ownsRow base 199 4 f.v f.ins.length f.cs
 kid:∀f∈L,tq (BX base w v L) w f.ins f.cs
 ok:∀f∈L,dI f.tok
 dist:L.Pairwise (fun a b=>∀k,a.v.ownBlock=some k->b.v.ownBlock≠some k)
def mM(L:List Fr):Stack:=(L.map (fun f=>(f.tok,f.ins))).reverse
theorem dG(L:List Fr)(f:Fr):mM (L++[f])=(f.tok,f.ins)::mM L:=by simp[mM]
theorem QE(L:List Fr):(mM L).length=L.length:=by simp[mM]
theorem kS(L:List Fr):(L.flatMap Fr.cells).length=L.length*5:=by
 induction L with
 |nil=>rfl
 |cons f r ih=>simp only[List.flatMap_cons,List.length_append,ih,Fr.cells,List.length_cons,List.length_nil];omega
theorem aP{w w':WD}{base e s n:Nat}{v:Av}{xs:List Av}(h:w.ownsRow base e s v n xs)(hw:∀g,v.ownBlock=some g->w'.heap[g]?=w.heap[g]?):w'.ownsRow base e s v n xs:=by
 refine⟨h.1,?_⟩;rcases h.2 with hn|⟨g,cap,cur,rfl,hbg,hgg,rest⟩
 .exact .inl hn
 .exact .inr ⟨g,cap,cur,rfl,hbg,by rw[hw g rfl];exact hgg,rest⟩
section
variable {base:Nat} {w w':WD} {v:Av} {L:List Fr}
theorem vF.keep(h:vF base w v L)(hs:w.heap.size<=w'.heap.size)(hw:∀g,base<=g->g<w.heap.size->w'.heap[g]?=w.heap[g]?):vF base w' v L:=
 ⟨aP h.row fun g hg=>hw g (h.row.lt g hg).1 (h.row.lt g hg).2,
  fun f hf=>aP (h.own f hf) fun g hg=>hw g ((h.own f hf).lt g hg).1 ((h.own f hf).lt g hg).2,
  fun f hf=>(h.kid f hf).keep (fun g hg=>⟨hg.1,by have:=hg.2.1;omega,hg.2.2⟩) fun g hg=>hw g hg.1 hg.2.1,h.ok,h.dist⟩
theorem vF.apart(h:vF base w v L){f:Fr}(hf:f∈L)(k:Nat)(hk:v.ownBlock=some k):f.v.ownBlock≠some k:=ZQ h.row (h.own f hf) Al k hk
theorem vF.drop{f:Fr}(h:vF base w v (L++[f]))(h6:f.ins.length<=600){g n cap:Nat}(e:v=.slice (some ⟨g,0,none⟩) n cap):
  vF base w (.slice (some ⟨g,0,none⟩) L.length cap) L/\Sl (BX base w (.slice (some ⟨g,0,none⟩) L.length cap) L) w f.v f.ins:=by
 subst e;have hl:=h.row.1;have hrow:w.ownsRow base 195 5 (.slice (some ⟨g,0,none⟩) L.length cap) L.length (L.flatMap Fr.cells):=by
  refine⟨kS L,.inr ?_⟩;rcases h.row.2 with⟨hv,_⟩|⟨g',cap',cur,hv,hbg,hgg,hnc,hcm,hcs,htk⟩
  .cases hv
  .cases hv;refine⟨g,cap,cur,rfl,hbg,hgg,by simp at hnc;omega,hcm,hcs,?_⟩;have h1:(cur.toList.take ((L++[f]).length*5)).take (L.length*5)=cur.toList.take (L.length*5):=by
    rw[List.take_take,Nat.min_eq_left (by simp only[List.length_append,List.length_cons,List.length_nil];omega)]
   rw[<-h1,htk,List.flatMap_append,<-kS L,List.take_left'];rfl
 have hS:∀b,BX base w (.slice (some ⟨g,0,none⟩) n cap) (L++[f]) b->BX base w (.slice (some ⟨g,0,none⟩) L.length cap) L b:=fun b hb=>⟨hb.1,hb.2.1,hb.2.2.1,fun q hq=>hb.2.2.2 q (by simp[hq])⟩;have hdist:=List.pairwise_append.1 h.dist;refine⟨⟨hrow,fun q hq=>h.own q (by simp[hq]),fun q hq=>(h.kid q (by simp[hq])).keep hS fun _ _=>rfl,fun q hq=>h.ok q (by simp[hq]),hdist.1⟩,?_⟩;have ho:=h.own f Ab;have hk:tq (BX base w (.slice (some ⟨g,0,none⟩) L.length cap) L) w f.ins f.cs:=(h.kid f Ab).keep hS fun _ _=>rfl;rcases ho.2 with⟨hv,hn⟩|⟨g',cap',cur,hv,hbg,hgg,hnc,hcm,hcs,htk⟩
 .have:f.ins=[]:=List.eq_nil_of_length_eq_zero hn;rw[hv,this];exact Sl.nil _ _
 .rw[hv];have hf1:some g'≠Value.ownBlock (.slice (some ⟨g,0,none⟩) L.length cap):=by
   intro e;have:=h.apart (f:=f) Ab g rfl;rw[hv]at this;exact this (by rw[show Value.ownBlock (.slice (some ⟨g,0,none⟩) L.length cap)=some g from rfl]at e;cases e;rfl)
  have hf2:∀q∈L,some g'≠q.v.ownBlock:=by intro q hq e;exact hdist.2.2 q hq f Ab g' e.symm (by rw[hv];rfl)
  refine⟨_,cap',rfl,⟨hnc,h6⟩,fun _=>⟨g',0,rfl,tq.lies ⟨hbg,(Ay hgg),hf1,hf2⟩ f.ins f.cs 0 hk fun j u hu=>?_⟩⟩;have:=ho.cells (g:=g') (by rw[hv];rfl) j u hu;rw[Addr.add_lit,Nat.zero_add]at this;rw[Nat.zero_add];exact this
theorem vF.push(h:vF base w v L)(t:Tok)(ht:dI t){v2:Av}
  (hrow:w'.ownsRow base 195 5 v2 (L.length+1) (L.flatMap Fr.cells++[.int .i64 t.kind,.string t.word,.string t.unit,.string (closing t),.slice none 0 0]))
  (hs:w.heap.size<=w'.heap.size) (hw:∀g,g<w.heap.size->some g≠v.ownBlock->w'.heap[g]?=w.heap[g]?) (hat:v2.ownBlock=v.ownBlock\/∃b,v2.ownBlock=some b/\w.heap.size<=b):
  vF base w' v2 (L++[⟨t,[],.slice none 0 0,[]⟩]):=by
 have hnv:∀g,g<w.heap.size->some g≠v.ownBlock->some g≠v2.ownBlock:=by
  intro g hg h1;rcases hat with e|⟨b,e,hb⟩
  .rw[e];exact h1
  .rw[e];intro e2;cases e2;omega
 have hS:∀b,BX base w v L b->BX base w' v2 (L++[⟨t,[],.slice none 0 0,[]⟩]) b:=fun b hb=>⟨hb.1,by have:=hb.2.1;omega,hnv b hb.2.1 hb.2.2.1,fun q hq=>by
  rcases List.mem_append.1 hq with h1|h1
  .exact hb.2.2.2 q h1
  .rw[List.mem_singleton.1 h1];simp[Value.ownBlock]⟩
 have hnew:∀q∈L++[(⟨t,[],.slice none 0 0,[]⟩:Fr)],q∈L\/q=⟨t,[],.slice none 0 0,[]⟩:=fun q hq=>by simpa using hq
 refine⟨?_,fun q hq=>?_,fun q hq=>?_,fun q hq=>?_,?_⟩
 .rw[List.length_append,List.flatMap_append];simpa[Fr.cells]using hrow
 .rcases hnew q hq with h1|rfl
  .exact aP (h.own q h1) fun g hg=>hw g ((h.own q h1).lt g hg).2 fun e=>h.apart h1 g e.symm hg
  .exact World.ownsRow_nil _ _ _ _
 .rcases hnew q hq with h1|rfl
  .exact(h.kid q h1).keep hS fun g hg=>hw g hg.2.1 hg.2.2.1
  .rfl
 .rcases hnew q hq with h1|rfl
  .exact h.ok q h1
  .exact ht
 .refine List.pairwise_append.2 ⟨h.dist,by simp,fun a _ b hb k _=>?_⟩;rw[List.mem_singleton.1 hb];simp[Value.ownBlock]
theorem afW(xs:List Av)(k:Nat)(hk:xs.length=k*5)(a b c d e e2:Av):(xs++[a,b,c,d,e]).set (k*5+4) e2=xs++[a,b,c,d,e2]:=by rw[<-hk,List.set_append_right _ _ oo];simp
theorem vF.grow{f:Fr}(h:vF base w v (L++[f])){n:Nd}{kv:Av}(hk:Sl (BX base w v (L++[f])) w kv n.kids/\dI n.t){v2:Av}{cs2:List Av}
  (hcs:cs2=f.cs++[.int .i64 n.t.kind,.string n.t.word,.string n.t.unit,kv])
  (hown:w'.ownsRow base 199 4 v2 (f.ins.length+1) cs2)
  (hrow:w'.ownsRow base 195 5 v (L.length+1) (L.flatMap Fr.cells++[.int .i64 f.tok.kind,.string f.tok.word,.string f.tok.unit,.string (closing f.tok),v2]))
  (hs:w.heap.size<=w'.heap.size) (hw:∀g,g<w.heap.size->some g≠v.ownBlock->some g≠f.v.ownBlock->w'.heap[g]?=w.heap[g]?) (hat:v2.ownBlock=f.v.ownBlock\/∃b,v2.ownBlock=some b/\w.heap.size<=b):
  vF base w' v (L++[⟨f.tok,f.ins++[n],v2,cs2⟩]):=by
 subst hcs;have hdist:=List.pairwise_append.1 h.dist;have hn2:∀g,g<w.heap.size->some g≠f.v.ownBlock->some g≠v2.ownBlock:=by
  intro g hg h1;rcases hat with e|⟨b,e,hb⟩
  .rw[e];exact h1
  .rw[e];intro e2;cases e2;omega
 have hS:∀b,BX base w v (L++[f]) b->BX base w' v (L++[⟨f.tok,f.ins++[n],v2,f.cs++[.int .i64 n.t.kind,.string n.t.word,.string n.t.unit,kv]⟩]) b:=fun b hb=>⟨hb.1,by have:=hb.2.1;omega,hb.2.2.1,fun q hq=>by
  rcases List.mem_append.1 hq with h1|h1
  .exact hb.2.2.2 q (by simp[h1])
  .rw[List.mem_singleton.1 h1];exact hn2 b hb.2.1 (hb.2.2.2 f Ab)⟩
 have hW:∀g,BX base w v (L++[f]) g->w'.heap[g]?=w.heap[g]?:=fun g hg=>hw g hg.2.1 hg.2.2.1 (hg.2.2.2 f Ab);have hnew:∀q∈L++[(⟨f.tok,f.ins++[n],v2,f.cs++[.int .i64 n.t.kind,.string n.t.word,.string n.t.unit,kv]⟩:Fr)],q∈L\/q=⟨f.tok,f.ins++[n],v2,f.cs++[.int .i64 n.t.kind,.string n.t.word,.string n.t.unit,kv]⟩:=fun q hq=>by simpa using hq
 refine⟨?_,fun q hq=>?_,fun q hq=>?_,fun q hq=>?_,?_⟩
 .rw[List.length_append,List.flatMap_append];simpa[Fr.cells]using hrow
 .rcases hnew q hq with h1|rfl
  .exact aP (h.own q (by simp[h1])) fun g hg=>hw g ((h.own q (by simp[h1])).lt g hg).2 (fun e=>h.apart (f:=q) (by simp[h1]) g e.symm hg) (fun e=>hdist.2.2 q h1 f Ab g hg e.symm)
  .simpa using hown
 .rcases hnew q hq with h1|rfl
  .exact(h.kid q (by simp[h1])).keep hS hW
  .exact tq.snoc _ _ ((h.kid f Ab).keep hS hW) n kv ⟨hk.1.keep hS hW,hk.2⟩
 .rcases hnew q hq with h1|rfl
  .exact h.ok q (by simp[h1])
  .exact h.ok f Ab
 .refine List.pairwise_append.2 ⟨hdist.1,by simp,fun a ha b hb k hk=>?_⟩;rw[List.mem_singleton.1 hb];have:=((h.own a (by simp[ha])).lt k hk).2;rcases hat with e|⟨b',e,hb'⟩
  .show v2.ownBlock≠some k;rw[e];exact hdist.2.2 a ha f Ab k hk
  .show v2.ownBlock≠some k;rw[e];intro e2;cases e2;omega
theorem vF.put{f:Fr}(h:vF base w v (L++[f])){g co:Nat}(e:v=.slice (some ⟨g,0,none⟩) (L.length+1) co)(n:Nd)(kv:Av)(hk:Sl (BX base w v (L++[f])) w kv n.kids/\dI n.t){W w4:WD}{gv vc:Nat}{z0 z1 z2 z3:Av}
  (hWs:w.heap.size<=W.heap.size) (hW:∀k,k<w.heap.size->W.heap[k]?=w.heap[k]?)
  (hown:w4.ownsRow base 199 4 (.slice (some ⟨gv,0,none⟩) (f.ins.length+1) vc) (f.ins.length+1) (f.cs++[z0,z1,z2,z3])) (hgr:W.grownBy w4 f.v.ownBlock) (hat:some gv=f.v.ownBlock\/some gv=some W.heap.size):
  vF base (((((w4.setCell ⟨g,L.length*5+4,none⟩ (.slice (some ⟨gv,0,none⟩) (f.ins.length+1) vc)).setCell ⟨gv,f.ins.length*4,none⟩ (.int .i64 n.t.kind)).setCell ⟨gv,f.ins.length*4+1,none⟩ (.string n.t.word)).setCell ⟨gv,f.ins.length*4+2,none⟩ (.string n.t.unit)).setCell ⟨gv,f.ins.length*4+3,none⟩ kv)
   v (L++[⟨f.tok,f.ins++[n],.slice (some ⟨gv,0,none⟩) (f.ins.length+1) vc,f.cs++[.int .i64 n.t.kind,.string n.t.word,.string n.t.unit,kv]⟩]):=by
 have hap:some g≠f.v.ownBlock:=fun e2=>h.apart (f:=f) Ab g (by rw[e];rfl) e2.symm;have hgo:=h.row.lt g (by rw[e];rfl);have hrow0:w.ownsRow base 195 5 v (L.length+1) (L.flatMap Fr.cells++[.int .i64 f.tok.kind,.string f.tok.word,.string f.tok.unit,.string (closing f.tok),f.v]):=by have:=h.row;rw[List.length_append,List.flatMap_append]at this;simpa[Fr.cells]using this
 have amo:=aP (w':=W) hrow0 fun k hk=>hW k (hrow0.lt k hk).2;have row4:=amo.kept hgr (.inr (by rw[e];exact hap));have hcl:f.cs.length=f.ins.length*4:=(h.own f Ab).1;have hs:=hgr.size;have hne:gv≠g:=by
  rintro rfl;rcases hat with e2|e2
  .exact hap e2
  .cases e2;omega
 subst e;obtain⟨s5,g5⟩:=row4.stored (L.length*5+4) (.slice (some ⟨gv,0,none⟩) (f.ins.length+1) vc);have o5:=hown.kept g5 (.inr (by simp[Value.ownBlock];exact hne));obtain⟨o6,g6⟩:=o5.stored (f.ins.length*4) (.int .i64 n.t.kind);obtain⟨o7,g7⟩:=o6.stored (f.ins.length*4+1) (.string n.t.word);obtain⟨o8,g8⟩:=o7.stored (f.ins.length*4+2) (.string n.t.unit);obtain⟨o9,g9⟩:=o8.stored (f.ins.length*4+3) kv;rw[ab4 _ _ hcl]at o9;rw[afW _ _ (kS L)]at s5;have hro:Value.ownBlock (.slice (some ⟨g,0,none⟩) (L.length+1) co)≠some gv:=by simp[Value.ownBlock];exact fun e=>hne e.symm
 have s9:=(((s5.kept g6 (.inr hro)).kept g7 (.inr hro)).kept g8 (.inr hro)).kept g9 (.inr hro);have hz5:=g5.size;have hz6:=g6.size;have hz7:=g7.size;have hz8:=g8.size;have hz9:=g9.size;refine h.grow hk rfl o9 s9 oo (fun k hk h2 h1=>?_) ?_
 .have hgg:some k≠some gv:=by
   rcases hat with e2|e2
   .rw[e2];exact h1
   .cases e2;intro e3;cases e3;omega
  rw[g9.block k oo hgg,g8.block k oo hgg,g7.block k oo hgg,g6.block k oo hgg,g5.block k oo h2,hgr.block k oo h1,hW k hk]
 .rcases hat with e2|e2
  .exact .inl e2
  .cases e2;exact .inr ⟨_,rfl,hWs⟩
end
theorem Ou(w:WD){a b:Addr}(h:a.block≠b.block)(x y:Av):(w.setCell a x).setCell b y=(w.setCell b y).setCell a x:=by
 unfold World.setCell;simp only;congr 1
 apply Array.ext_getElem?
 intro i;simp only[Array.getElem?_modify];by_cases h1:a.block=i
 .have h2:¬b.block=i:=fun e=>h (h1.trans e.symm);simp[h1,h2]
 .simp[h1]
end
theorem eF{w w':WD}{base:Nat}{e:TypeId}{size:Nat}{v:Av}{n:Nat}{xs:List Av}{b:Nat}(h:w.ownsRow base e size v n xs)(ht:Turn b w w')(hb:b<base):w'.ownsRow base e size v n xs:=by
 refine⟨h.1,?_⟩;rcases h.2 with hn|⟨g,cap,cur,rfl,hbg,hgg,rest⟩
 .exact .inl hn
 .refine .inr ⟨g,cap,cur,rfl,hbg,?_,rest⟩;rw[ht.block g (Ay hgg) oo];exact hgg
theorem bP{w:WD}{base:Nat}{e:TypeId}{size:Nat}{v:Av}{n:Nat}{xs:List Av}(h:w.ownsRow base e size v n xs)(k:Nat):(w.drewN k).ownsRow base e size v n xs:=h
theorem aB.grown{b k:Nat}{s:BY}{w w1 w2:WD}{row:Option Nat}(h:aB b s k w w1)(hg:w1.grownBy w2 row)(hb:b<w.heap.size)(hrow:∀r,row=some r->w.heap.size<=r):aB b s k w w2:=by
 have hsz:=h.2.size;have hp:=h.1.pos;refine⟨⟨?_,?_,h.1.pos,h.1.len,h.1.le⟩,?_⟩
 .rw[hg.block b oo (fun e=>by have:=hrow b e.symm;omega)];exact h.1.blk
 .obtain⟨m,hm⟩:=h.1.glob;exact⟨m,by rw[<-hm];exact World.cell?_of_block (w:=w1) (hg.block 0 oo (fun e=>by have:=hrow 0 e.symm;omega))⟩
 .exact⟨hg.os.trans h.2.os,hg.tape.trans h.2.tape,hg.output.trans h.2.output,Nat.le_trans hsz hg.size,fun j hj hjb=>(hg.block j oo (fun e=>by have:=hrow j e.symm;omega)).trans (h.2.block j hj hjb)⟩
theorem aB.below{b k:Nat}{s:BY}{w w1 w2:WD}(h:aB b s k w w1)(hb:Below w1.heap.size w1 w2):aB b s k w w2:=by
 have hl:=h.1.lt;have hp:=h.1.pos;refine⟨⟨?_,?_,h.1.pos,h.1.len,h.1.le⟩,h.2.trans (Turn.of_below hb)⟩
 .rw[hb.block b hl];exact h.1.blk
 .obtain⟨m,hm⟩:=h.1.glob;exact⟨m,by rw[<-hm];exact hb.cell (p:=⟨0,0,none⟩) (by show 0<w1.heap.size;omega)⟩
theorem aT(x:BY):∀u∈[Value.string x],u.oneCell'=true:=by simp[Value.oneCell']
theorem Ar(s:BY)(b i:Nat)(w:WD)(h:Sc w b s i):
  Calls prog 180 #[.pointer (some ⟨b,0,none⟩)] w fun e w'=>e=.returned (.string (Sp.name s i).1)/\aB b s (Sp.name s i).2 w w':=by
 have W:Hid (aB b s i w w):=aB.refl h;clear h;have hbw:b<w.heap.size:=W.o.1.lt;have hs:s.size<=600:=W.o.1.len;obtain⟨iS,wK⟩:=info_str;have HI:=hid wK;clear wK;go_in;go_wp2_with fail;refine ji (fun Q' hF=>?_);go_wp2_with fail;go_loopg[3] s.size (fun g v3 wr=>∃(v:Av) (k:Nat) (ps:List BY),v=v3/\s.size<=k+g/\ps.length<=k/\total ps<=k/\Aside (iK s g k (aG ps)=Sp.name s i/\wr.ownsRow w.heap.size 9 1 v ps.length (ps.map Value.string)/\aB b s k w wr));case atStart=>exact⟨_,i,[],rfl,oo,by simp,by simp[total],rfl,World.ownsRow_nil _ _ _ _,W.o⟩
 case round=>
  obtain⟨v3,k,ps,rfl,hk,hpl,hpt,hA⟩:=hrel;have H1:=hid hA.o.1;have HO:=hid hA.o.2.1;have H2:=hid hA.o.2.2;clear hA;have hke:=H2.o.1.le;cases hn:lX (pk s k)
  .cases he:kY s k
   .have HV:Hid (Sp.name s i=(aG ps,k)):=by
     show _=_;rw[<-H1.o];cases gk with
     |zero=>rfl
     |succ f=>unfold iK;rw[if_neg (by simp[hn]),if_neg (by simp[he])]
    go_wp2_with fail;refine cZ (ak s b (k) _ (k) _ (H2.o.1) ⟨oo,oo,oo⟩) fun nq=>?_;go_wp2_with fail;refine jA (nC _ _) ?_;go_wp2_with fail;refine cZ (fA s b (k) _ (k) _ (H2.o.1.drewN _) ⟨oo,oo,oo⟩) fun nq=>?_;go_wp2_with fail;go_step3
    refine hF.go 0 _ _ _ rfl ?_;clear hF;go_wp2_with fail;refine pmb (dQ ps w.heap.size v3 _ (bP HO.o _) oo oo) fun w1 hb1=>?_;have W1:Hid (aB b s k w w1):=(H2.o.drewN _).below hb1;clear hb1;go_wp2_with fail;try rw[Exit.noGoto_ret]
    go_ret;rw[HV.o];exact⟨rfl,W1.o⟩
   .have hlt:k<s.size:=Oc he;have hle:=uX hlt;have hgt:=oL s k;obtain⟨f,rfl⟩:∃f,gk=f+1:=⟨gk-1,oo⟩;have HV:Hid (iK s f (esc s k).2 (aG (ps++[(esc s k).1]))=Sp.name s i):=by
     show _=_;rw[<-H1.o,dw];conv=>rhs;unfold iK
     rw[if_neg (by simp[hn]),if_pos he]
    have hsz:Hid ((esc s k).1.size=1):=kN;go_wp2_with fail;refine cZ (ak s b (k) _ (k) _ (H2.o.1) ⟨oo,oo,oo⟩) fun nq=>?_;go_wp2_with fail;refine jA (nC _ _) ?_;go_wp2_with fail;refine cZ (fA s b (k) _ (k) _ (H2.o.1.drewN _) ⟨oo,oo,oo⟩) fun nq=>?_;go_wp2_with fail;refine pmb (BU s b k _ (H2.o.1.drewN _) hlt) fun w1 aj=>?_;have W1:Hid (aB b s (esc s k).2 w w1):=(H2.o.drewN _).trans aj;have uS:Hid (w1.ownsRow w.heap.size 9 1 v3 ps.length (ps.map Value.string)):=eF (bP HO.o _) aj.2 hbw;clear aj;have hw1:=W1.o.2.size
    go_wp2_with(at_builtin;refine wpList_append_own _ rfl _ _ 26 rfl w.heap.size 9 iS (.string ⟨#[]⟩) 1 16 Tryz.underlying26 HI.o.1 HI.o.2.1 HI.o.2.2.1 HI.o.2.2.2 rfl oo v3 ps.length (ps.map Value.string) rfl (uS.o.alloc _) ⟨w1.heap.size,0,none⟩ 1 1 [.string (esc s k).1] rfl rfl (cell_one_new _ _ _) (aT _) ?_ ?_ ?_ ?_)
    .unfold maxLen;omega
    .omega
    .simp;omega
    intro v4 w2 hown2 jk _;have W2:Hid (aB b s (esc s k).2 w w2):=(W1.o.alloc _).grown jk hbw (fun r hr=>(uS.o.lt r hr).1);have FW:=hid hown2;clear hown2 jk;go_wp2_with fail;go_roundg f;case measure=>omega
    case rel=>
     refine⟨v4,(esc s k).2,ps++[(esc s k).1],rfl,oo,by simp;omega,?_,HV.o,?_,W2.o⟩
     .have:=hsz.o;simp[dh,total,this];omega
     .simpa using FW.o
  .have hlt:k<s.size:=dY (uV hn);obtain⟨f,rfl⟩:∃f,gk=f+1:=⟨gk-1,oo⟩;have HV:Hid (iK s f (k+1) (aG (ps++[one s k]))=Sp.name s i):=by
    show _=_;rw[<-H1.o,dw];conv=>rhs;unfold iK
    rw[if_pos hn]
   have hsz:Hid ((one s k).size=1):=iQ hlt;go_wp2_with fail;refine cZ (ak s b (k) _ (k) _ (H2.o.1) ⟨oo,oo,oo⟩) fun nq=>?_;go_wp2_with fail;refine jA (nC _ _) ?_;go_wp2_with fail;refine pmb (Ap s b k _ (H2.o.1.drewN _) hlt) fun w1 aj=>?_;have W1:Hid (aB b s (k+1) w w1):=(H2.o.drewN _).trans aj;have uS:Hid (w1.ownsRow w.heap.size 9 1 v3 ps.length (ps.map Value.string)):=eF (bP HO.o _) aj.2 hbw;clear aj;have hw1:=W1.o.2.size;go_wp2_with(at_builtin;refine wpList_append_own _ rfl _ _ 26 rfl w.heap.size 9 iS (.string ⟨#[]⟩) 1 16 Tryz.underlying26 HI.o.1 HI.o.2.1 HI.o.2.2.1 HI.o.2.2.2 rfl oo v3 ps.length (ps.map Value.string) rfl (uS.o.alloc _) ⟨w1.heap.size,0,none⟩ 1 1 [.string (one s k)] rfl rfl (cell_one_new _ _ _) (aT _) ?_ ?_ ?_ ?_)
   .unfold maxLen;omega
   .omega
   .simp;omega
   intro v4 w2 hown2 jk _;have W2:Hid (aB b s (k+1) w w2):=(W1.o.alloc _).grown jk hbw (fun r hr=>(uS.o.lt r hr).1);have FW:=hid hown2;clear hown2 jk;go_wp2_with fail;go_roundg f;case measure=>omega
   case rel=>
    refine⟨v4,k+1,ps++[one s k],rfl,oo,by simp;omega,?_,HV.o,?_,W2.o⟩
    .have:=hsz.o;simp[dh,total,this];omega
    .simpa using FW.o
def bt(s:BY)(k:Nat):UInt8:=if h:k<s.size then s[k] else 0
theorem MJ{s:BY}{k:Nat}(h:k<s.size):bt s k=s[k]:=by unfold bt;rw[dif_pos h]
theorem Ie{s:BY}{k:Nat}(h:k<s.size):pk s k=((bt s k).toNat:Int):=by rw[MJ h];unfold pk;rw[dif_pos h]
def zO(ok:Nat->Bool)(s:BY):Nat->List BY
 |0=>[]
 |k+1=>zO ok s k++[if ok k=true then b1 (bt s k) else KU (bt s k)]
theorem afX(ok:Nat->Bool)(s:BY)(k:Nat):(zO ok s k).length=k:=by
 induction k with
 |zero=>rfl
 |succ k ih=>simp[zO,ih]
theorem Ej(ok:Nat->Bool)(s:BY)(k:Nat):total (zO ok s k)<=4*k:=by
 induction k with
 |zero=>simp[zO,total]
 |succ k ih=>
  unfold zO;rw[dh];have:(if ok k=true then b1 (bt s k) else KU (bt s k)).size<=4:=by
   split
   .show 1<=4;omega
   .show 4<=4;omega
  simp only[total];omega
theorem mO(a:BY):a++aA=a:=by
 apply ByteArray.ext
 rw[ByteArray.data_append];simp[aA]
theorem Ig(ok:Nat->Bool)(s:BY)(k:Nat):zO ok s (k+1)=zO ok s k++[if ok k=true then b1 (bt s k) else KU (bt s k)]:=rfl
theorem ach(ok:Nat->UInt8->Bool)(s:BY):∀(n k:Nat),k+n=s.size->aG (zO (fun i=>ok i (bt s i)) s k)++BP ok k (s.data.toList.drop k)=aG (zO (fun i=>ok i (bt s i)) s s.size):=by
 intro n;induction n with
 |zero=>intro k h;have:k=s.size:=oo;subst this;rw[List.drop_of_length_le (by rw[Array.length_toList];exact Nat.le_refl _)];show aG _++aA=_;exact mO _
 |succ n ih=>
  intro k h;have hk:k<s.data.toList.length:=by simp only[Array.length_toList];show k<s.size;omega
  rw[List.drop_eq_getElem_cons hk];have hb:s.data.toList[k]=bt s k:=by rw[MJ (show k<s.size by omega)];rfl
  rw[hb];unfold BP;have:=ih (k+1) oo;rw[Ig,dw,ByteArray.append_assoc]at this;exact this
theorem Cb(ok:Nat->UInt8->Bool)(s:BY):BP ok 0 s.data.toList=aG (zO (fun i=>ok i (bt s i)) s s.size):=by have:=ach ok s s.size 0 oo;simpa[zO,aG]using this
theorem aiT{s:BY}{k:Nat}(h:k<s.size):one s k=b1 (bt s k):=by
 rw[MJ h];unfold one b1;apply ByteArray.ext
 rw[ByteArray.data_extract];apply Array.ext
 .simp;omega
 .intro i h1 h2;simp at h2;subst h2;simp;rfl
theorem vG(s:BY)(g:Nat)(cs:Array Av)(ok:Nat->Bool)(w:WD)(hs:s.size<=4000000)
  (hg:∀(args:Array Av) (w:WD),(callFunc g args).run prog w=.ok (.enter g args) w)
  (hf:∀i,i<s.size->∀w',Below w.heap.size w w'->Calls prog g (#[.int .i64 (i:Int)]++cs) w' fun ex w''=>ex=.returned (.bool (ok i))/\Below w'.heap.size w' w''):
  Calls prog 249 #[.string s,.func (.func g) #[] cs] w fun e w'=>e=.returned (.string (aG (zO ok s s.size)))/\Below w.heap.size w w':=by
 have HF:=hid hf;clear hf;obtain⟨iS,wK⟩:=info_str;have HI:=hid wK;clear wK;go_in;go_wp2_with fail;go_loopg[5,9] s.size (fun gg v5 v wr=>∃(u:Av) (k:Nat),u=v5/\k+gg=s.size/\v=.int .i64 (k:Int)/\Aside (wr.ownsRow w.heap.size 9 1 u k ((zO ok s k).map Value.string)/\Below w.heap.size w wr));case atStart=>exact⟨_,0,rfl,oo,rfl,World.ownsRow_nil _ _ _ _,Ax⟩
 case round=>
  obtain⟨u,k,rfl,hk,rfl,hA⟩:=hrel;have O1:=hid hA.o.1;have B1:=hid hA.o.2;clear hA;have hsz:=B1.o.size;by_cases hlt:k<s.size
  .have h1:(k:Int)<(s.size:Int):=oo;have hc:=HF.o k hlt wr B1.o;have HC:=hid hc;clear hc;have hw1:IntKind.i64.wrap ((k:Int)+1)=(k:Int)+1:=by rw[IntKind.wrap_i64];omega
   have hsl:=aiS s k hlt;rw[aiT hlt]at hsl;have hix:=gQ s k hlt;rw[Ie hlt]at hix;go_wp2_with fail;refine HC.o.mono ?_;obtain⟨b,Hb⟩:=Nm (ok k);rw[Hb.o];rintro e w1 ⟨rfl,hb1⟩;have B2:=hid (B1.o.trans (hb1.mono hsz));have O2:Hid (w1.ownsRow w.heap.size 9 1 u k ((zO ok s k).map Value.string)):=aP O1.o fun r hr=>hb1.block r (O1.o.lt r hr).2;have hsz2:=B2.o.size;clear hb1;cases b;focus
    go_wp2_with fail;refine pmb (ZY (bt s k) _) fun w2 hb2=>?_;have B3:=hid (B2.o.trans (hb2.mono hsz2));have O3:Hid (w2.ownsRow w.heap.size 9 1 u k ((zO ok s k).map Value.string)):=aP O2.o fun r hr=>hb2.block r (O2.o.lt r hr).2;have hsz3:=B3.o.size;clear hb2;have HP:Hid (zO ok s (k+1)=zO ok s k++[KU (bt s k)]):=by show _=_;rw[Ig,Hb.o];rfl
    go_wp2_with(at_builtin;go_must(refine wpList_append_own _ rfl _ _ 26 rfl w.heap.size 9 iS (.string ⟨#[]⟩) 1 16 Tryz.underlying26 HI.o.1 HI.o.2.1 HI.o.2.2.1 HI.o.2.2.2 rfl oo u k ((zO ok s k).map Value.string) rfl (O3.o.alloc _) ⟨w2.heap.size,0,none⟩ 1 1 [.string (KU (bt s k))] rfl rfl (cell_one_new _ _ _) (aT _) As oo An ?_));intro v4 w4 hown4 dS _;have O4:Hid (w4.ownsRow w.heap.size 9 1 v4 (k+1) ((zO ok s (k+1)).map Value.string)):=by show World.ownsRow _ _ _ _ _ _ _;rw[HP.o,List.map_append];exact hown4
    have B4:Hid (Below w.heap.size w w4):=(B3.o.alloc hsz3 _).grown dS An (fun rr hr=>(O3.o.lt rr hr).1)
   rotate_left;focus
    have HP:Hid (zO ok s (k+1)=zO ok s k++[b1 (bt s k)]):=by show _=_;rw[Ig,Hb.o];rfl
    go_wp2_with(at_builtin;go_must(refine wpList_append_own _ rfl _ _ 26 rfl w.heap.size 9 iS (.string ⟨#[]⟩) 1 16 Tryz.underlying26 HI.o.1 HI.o.2.1 HI.o.2.2.1 HI.o.2.2.2 rfl oo u k ((zO ok s k).map Value.string) rfl (O2.o.alloc _) ⟨w1.heap.size,0,none⟩ 1 1 [.string (b1 (bt s k))] rfl rfl (cell_one_new _ _ _) (aT _) As oo An ?_));intro v4 w4 hown4 dS _;have O4:Hid (w4.ownsRow w.heap.size 9 1 v4 (k+1) ((zO ok s (k+1)).map Value.string)):=by show World.ownsRow _ _ _ _ _ _ _;rw[HP.o,List.map_append];exact hown4
    have B4:Hid (Below w.heap.size w w4):=(B2.o.alloc hsz2 _).grown dS An (fun rr hr=>(O2.o.lt rr hr).1)
   rotate_left;all_goals
    clear hown4 dS;go_wp2_with fail;go_roundg(gk-1);case measure=>omega
    case rel=>exact⟨v4,k+1,rfl,oo,by congr 1,O4.o,B4.o⟩
  .have h1:(s.size:Int)<=(k:Int):=oo;have hke:k=s.size:=oo;subst hke;have hpt:=Ej ok s s.size;have hpl:=afX ok s s.size;have O5:Hid (wr.ownsRow w.heap.size 9 1 u (zO ok s s.size).length ((zO ok s s.size).map Value.string)):=by show World.ownsRow _ _ _ _ _ _ _;rw[hpl];exact O1.o
   go_wp2_with fail;refine pmb (dQ (zO ok s s.size) w.heap.size u _ O5.o oo oo) fun w5 hb5=>?_;have B5:=hid (B1.o.trans (hb5.mono hsz));clear hb5;go_wp2_with fail;go_ret;exact⟨rfl,B5.o⟩
def bU(w:WD)(b:Nat)(v:Av)(T:TypeId):Prop:=w.heap[b]?=some (.cells #[v] T (0,0))
theorem bU.c{w:WD}{b:Nat}{v:Av}{T:TypeId}(h:bU w b v T):w.cell? ⟨b,0,none⟩=some v:=by unfold World.cell?;rw[show w.heap[b]?=_ from h];rfl
theorem bU.lt{w:WD}{b:Nat}{v:Av}{T:TypeId}(h:bU w b v T):b<w.heap.size:=(Ay h)
theorem bU.below{w w':WD}{b:Nat}{v:Av}{T:TypeId}{g:Nat}(h:bU w b v T)(hb:Below g w w')(hg:b<g):bU w' b v T:=by unfold bU;rw[hb.block _ hg];exact h
theorem bU.new(w:WD)(v:Av)(T:TypeId):bU (w.alloc (.cells #[v] T)) w.heap.size v T:=heap_alloc_new w _
theorem bU.alloc{w:WD}{b:Nat}{v:Av}{T:TypeId}(h:bU w b v T)(o:Obj):bU (w.alloc o) b v T:=by unfold bU;rw[Below.heap_alloc _ _ _ h.lt];exact h
theorem nI:∀(fn:Fn) (first cap:Array Av) (w:WD),(Instr.makeFunc fn first cap).run prog w=.ok (.func fn first cap) w:=fun _ _ _ _=>rfl
def pnI(c:Int)(i:Nat)(p0:Int)(n:Nat):Bool:=if (wlI c||c==95)=true then true else if (c==45)=true then decide (1<n) else if wdI c=true then(decide (1<i)||(i==1&&!(p0==45))) else false
theorem aiU{s:BY}{i:Nat}(h:i<s.size):pnI (pk s i) i (pk s 0) s.size=dZ s i (bt s i):=by
 rw[Ie h];unfold pnI dZ;rw[aii,aij,<-show(bt s i==95)=(((bt s i).toNat:Int)==95) from tZ _ 95 oo,<-show(bt s i==45)=(((bt s i).toNat:Int)==45) from tZ _ 45 oo];generalize bt s i=c at *;by_cases h1:c=45
 .subst h1;have e1:oU 45=false:=by decide
  have e2:oV 45=false:=by decide
  rw[e1,e2];simp;rw[Bool.eq_iff_iff];simp;omega
 .have h1':(c==45)=false:=by simpa using h1
  rw[h1'];cases hd:oV c
  .cases hl:oU c<;>cases h5:(c==95)<;>simp[h1]
  .have hl:oU c=false:=by
    unfold oV at hd;unfold oU;rw[Bool.eq_false_iff];simp at *;omega
   have h5:(c==95)=false:=by unfold oV at hd;rw[beq_eq_false_iff_ne];rintro rfl;simp at hd
   rw[hl,h5];simp;generalize pk s 0=q;rw[Bool.eq_iff_iff];simp;omega
theorem Fj(s:BY)(i:Nat)(w:WD)(hi:i<s.size)(hs:s.size<=4000000):
  Calls prog 251 #[.string s,.int .i64 (i:Int)] w fun e w'=>e=.returned (.bool (dZ s i (bt s i)))/\w'=w:=by
 rw[<-aiU hi];have hix:=gQ s i hi;have hix0:=gQ s 0 oo;have h0:(i:Int)<(s.size:Int):=oo;have h00:(0:Int)<(s.size:Int):=oo;obtain⟨c,Hc⟩:=Nm (pk s i);obtain⟨q,Hq⟩:=Nm (pk s 0);rw[Hc.o]at hix⊢;rw[Hq.o]at hix0⊢;have E0:∀h:0<s.size,((s[0]'h).toNat:Int)=q:=fun h=>by rw[<-Hq.o,Ie h,MJ h]
 have HE0:=hid E0;clear Hc Hq E0;have HD:Hid (pnI c i q s.size=if (wlI c||c==95)=true then true else if (c==45)=true then decide (1<s.size) else if wdI c=true then(decide (1<i)||(i==1&&!(q==45))) else false):=rfl;cases h1:wlI c
 .cases h2:(c==95)
  .cases h3:(c==45)
   .cases h4:wdI c
    .have HV:Hid (pnI c i q s.size=false):=by show _=_;rw[HD.o,h1,h2,h3,h4];rfl
     go_in;go_wp2_with(first|(go_at_call 294;refine(mZ _ _).mono ?_;rintro e w' ⟨rfl,rfl⟩)|(go_at_call 295;refine(pW _ _).mono ?_;rintro e w' ⟨rfl,rfl⟩));go_ret;exact⟨aC HV.o.symm,rfl⟩
    .have HV:Hid (pnI c i q s.size=(decide (1<i)||(i==1&&!(q==45)))):=by show _=_;rw[HD.o,h1,h2,h3,h4];rfl
     by_cases h5:1<i
     .have h5':(1:Int)<(i:Int):=oo;have HW:Hid (pnI c i q s.size=true):=by show _=_;rw[HV.o,decide_eq_true h5];rfl
      go_in;go_wp2_with(first|(go_at_call 294;refine(mZ _ _).mono ?_;rintro e w' ⟨rfl,rfl⟩)|(go_at_call 295;refine(pW _ _).mono ?_;rintro e w' ⟨rfl,rfl⟩));go_ret;exact⟨aC HW.o.symm,rfl⟩
     .have h5':(i:Int)<=1:=oo;by_cases h6:i=1
      .have h6':((i:Int)==1)=true:=by simp;omega
       have HW:Hid (pnI c i q s.size = !(q==45)):=by show _=_;rw[HV.o,decide_eq_false h5,h6];rfl
       clear h6 h5;go_in;go_wp2_with(first|(go_at_call 294;refine(mZ _ _).mono ?_;rintro e w' ⟨rfl,rfl⟩)|(go_at_call 295;refine(pW _ _).mono ?_;rintro e w' ⟨rfl,rfl⟩));go_ret;exact⟨aC (by rw[HW.o,decide_eq_false oo,HE0.o oo];rfl),rfl⟩
      .have h6':((i:Int)==1)=false:=by simp;omega
       have HW:Hid (pnI c i q s.size=false):=by show _=_;rw[HV.o,decide_eq_false h5,show(i==1)=false by simpa using h6];rfl
       go_in;go_wp2_with(first|(go_at_call 294;refine(mZ _ _).mono ?_;rintro e w' ⟨rfl,rfl⟩)|(go_at_call 295;refine(pW _ _).mono ?_;rintro e w' ⟨rfl,rfl⟩));go_ret;exact⟨aC (by rw[HW.o,decide_eq_false oo]),rfl⟩
   .have HV:Hid (pnI c i q s.size=decide ((1:Int)<(s.size:Int))):=by show _=_;rw[HD.o,h1,h2,h3];simp;omega
    go_in;go_wp2_with(first|(go_at_call 294;refine(mZ _ _).mono ?_;rintro e w' ⟨rfl,rfl⟩)|(go_at_call 295;refine(pW _ _).mono ?_;rintro e w' ⟨rfl,rfl⟩));go_ret;exact⟨aC HV.o.symm,rfl⟩
  .have HV:Hid (pnI c i q s.size=true):=by show _=_;rw[HD.o,h1,h2];rfl
   go_in;go_wp2_with(first|(go_at_call 294;refine(mZ _ _).mono ?_;rintro e w' ⟨rfl,rfl⟩)|(go_at_call 295;refine(pW _ _).mono ?_;rintro e w' ⟨rfl,rfl⟩));go_ret;exact⟨aC HV.o.symm,rfl⟩
 .have HV:Hid (pnI c i q s.size=true):=by show _=_;rw[HD.o,h1];rfl
  go_in;go_wp2_with(first|(go_at_call 294;refine(mZ _ _).mono ?_;rintro e w' ⟨rfl,rfl⟩)|(go_at_call 295;refine(pW _ _).mono ?_;rintro e w' ⟨rfl,rfl⟩));go_ret;exact⟨aC HV.o.symm,rfl⟩
theorem afY(s:BY)(i b:Nat)(w:WD)(hi:i<s.size)(hs:s.size<=4000000)(hb:bU w b (.string s) 9):
  Calls prog 250 #[.int .i64 (i:Int),.pointer (some ⟨b,0,none⟩)] w fun e w'=>e=.returned (.bool (dZ s i (bt s i)))/\Below w.heap.size w w':=by
 have c0:=hb.c;go_in;go_wp2_with fail;refine pmb (Fj s i _ hi hs) fun wq hwq=>?_;rw[hwq];go_wp2_with fail;go_ret;exact⟨rfl,Ax⟩
theorem afZ(s:BY)(i b:Nat)(w:WD)(hi:i<s.size)(hb:bU w b (.string s) 9):
  Calls prog 277 #[.int .i64 (i:Int),.pointer (some ⟨b,0,none⟩)] w fun e w'=>e=.returned (.bool (jO (bt s i)))/\Below w.heap.size w w':=by
 have c0:=hb.c;have hix:=gQ s i hi;rw[Ie hi]at hix;have h0:(i:Int)<(s.size:Int):=oo;rw[<-akM];go_in;go_wp2_with fail;refine pmb (QA _ _) fun wq hwq=>?_;rw[hwq];go_wp2_with fail;go_ret;exact⟨rfl,Ax⟩
theorem af0(s:BY)(i b:Nat)(w:WD)(hi:i<s.size)(hb:bU w b (.string s) 9):
  Calls prog 280 #[.int .i64 (i:Int),.pointer (some ⟨b,0,none⟩)] w fun e w'=>e=.returned (.bool (xH (bt s i)))/\Below w.heap.size w w':=by
 have c0:=hb.c;have hix:=gQ s i hi;rw[Ie hi]at hix;have h0:(i:Int)<(s.size:Int):=oo;rw[<-akN];go_in;go_wp2_with fail;refine pmb (QB _ _) fun wq hwq=>?_;rw[hwq];go_wp2_with fail;go_ret;exact⟨rfl,Ax⟩
theorem oW(s:BY)(w:WD)(hs:s.size<=4000000):Calls prog 190 #[.string s] w fun e w'=>e=.returned (.string (dP s))/\Below w.heap.size w w':=by
 have hmf:=nI;have V1:Hid (bU (w.alloc (.cells #[.string s] 9)) w.heap.size (.string s) 9):=bU.new _ _ _;have B1:Hid (Below w.heap.size w (w.alloc (.cells #[.string s] 9))):=Ax.alloc nl _;have c0:=V1.o.c;have HV:Hid (dP s=aG (zO (fun i=>dZ s i (bt s i)) s s.size)):=Cb _ s;go_in;go_wp2_with fail;generalize w.alloc (.cells #[.string s] 9)=w2 at *;refine(vG s _ _ (fun i=>dZ s i (bt s i)) w2 hs (fun _ _=>rfl) ?_).mono ?_
 .intro i hi w' hb';exact afY s i _ w' hi hs (V1.o.below hb' V1.o.lt)
 .rintro e wq ⟨rfl,hwq⟩;have B3:=hid (AC B1.o hwq);clear hwq;go_wp2_with fail;go_ret;exact⟨by rw[HV.o];rfl,B3.o⟩
theorem aci(s:BY)(w:WD)(hs:s.size<=4000000):Calls prog 229 #[.string s] w fun e w'=>e=.returned (.string (xG s))/\Below w.heap.size w w':=by
 have hmf:=nI;have V1:Hid (bU (w.alloc (.cells #[.string s] 9)) w.heap.size (.string s) 9):=bU.new _ _ _;have B1:Hid (Below w.heap.size w (w.alloc (.cells #[.string s] 9))):=Ax.alloc nl _;have c0:=V1.o.c;obtain⟨m,Hm⟩:=Nm (aG (zO (fun i=>jO (bt s i)) s s.size));have HV:Hid (xG s=aG [⟨#[34]⟩,m,⟨#[34]⟩]):=by show _=_;unfold xG;rw[Cb,Hm.o];simp[aG,aiR,b1]
 have hms:m.size<=16000000:=by rw[<-Hm.o,oQ];have:=Ej (fun i=>jO (bt s i)) s s.size;omega
 go_in;go_wp2_with fail;generalize w.alloc (.cells #[.string s] 9)=w2 at *;refine(vG s _ _ (fun i=>jO (bt s i)) w2 hs (fun _ _=>rfl) ?_).mono ?_
 .intro i hi w' hb';exact afZ s i _ w' hi (V1.o.below hb' V1.o.lt)
 .rw[Hm.o];rintro e wq ⟨rfl,hwq⟩;have B3:=hid (AC B1.o hwq);have hs3:=B3.o.size;clear hwq c0;go_wp2_with fail;refine pmb (dQ [⟨#[34]⟩,m,⟨#[34]⟩] wq.heap.size _ _ (row3 wq ⟨#[34]⟩ m ⟨#[34]⟩) Ab (by show 1+(m.size+(1+0))<=_;omega)) fun w5 hb5=>?_;have B5:Hid (Below w.heap.size w w5):=(B3.o.alloc hs3 _).trans (hb5.mono An);clear hb5;go_wp2_with fail;go_ret;exact⟨by rw[HV.o];rfl,B5.o⟩
def Fp(s:BY)(i:Nat):Bool:=dZ s i (bt s i)&&!(i==0&&(bt s i==101||bt s i==69))
theorem af2(s:BY)(i b:Nat)(w:WD)(hi:i<s.size)(hs:s.size<=4000000)(hb:bU w b (.string s) 9):
  Calls prog 279 #[.int .i64 (i:Int),.pointer (some ⟨b,0,none⟩)] w fun e w'=>e=.returned (.bool (Fp s i))/\Below w.heap.size w w':=by
 have c0:=hb.c;have hix:=gQ s i hi;rw[Ie hi]at hix;have h0:(i:Int)<(s.size:Int):=oo;have HU:Hid (Fp s i=(dZ s i (bt s i)&&!(i==0&&(((bt s i).toNat:Int)==101||((bt s i).toNat:Int)==69)))):=by show _=_;unfold Fp;rw[show(bt s i==101)=(((bt s i).toNat:Int)==101) from tZ _ 101 oo,show(bt s i==69)=(((bt s i).toNat:Int)==69) from tZ _ 69 oo]
 obtain⟨z,Hz⟩:=Nm (dZ s i (bt s i));rw[Hz.o]at HU;have hpn:=Fj s i w hi hs;rw[Hz.o]at hpn;have HPN:=hid hpn;clear hpn hb;obtain⟨c,Hc⟩:=Nm (((bt s i).toNat:Int));rw[Hc.o]at HU hix;cases z
 .have HV:Hid (Fp s i=false):=HU.o;go_in;go_wp2_with fail;refine HPN.o.mono ?_;rintro e wq ⟨rfl,hwq⟩;rw[hwq];go_wp2_with fail;go_ret;exact⟨aC HV.o.symm,Ax⟩
 .by_cases h1:i=0
  .subst h1;have HV:Hid (Fp s 0=(((s[0]'hi).toNat:Int) != 101&&((s[0]'hi).toNat:Int) != 69)):=by
    show _=_;rw[HU.o,<-Hc.o,MJ hi];cases h2:(((s[0]'hi).toNat:Int)==101)<;>cases h3:(((s[0]'hi).toNat:Int)==69)<;>simp[bne,h2,h3]
   clear HU Hc hix;go_in;go_wp2_with fail;refine HPN.o.mono ?_;rintro e wq ⟨rfl,hwq⟩;rw[hwq];go_wp2_with fail;all_goals
    go_ret;first|exact⟨aC HV.o.symm,Ax⟩|exact⟨aC (by rw[HV.o];simp[*]),Ax⟩
  .have h1':(0:Int)<(i:Int):=oo;have h1d:decide ((0:Int)<(i:Int))=true:=decide_eq_true h1';have h1b:(i==0)=false:=by simpa using h1
   have HV:Hid (Fp s i=true):=by show _=_;rw[HU.o,h1b];rfl
   clear h1 h1b HU;go_in;go_wp2_with fail;refine HPN.o.mono ?_;rintro e wq ⟨rfl,hwq⟩;rw[hwq];go_wp2_with fail;go_ret;exact⟨aC HV.o.symm,Ax⟩
theorem aiV(s:BY)(w:WD)(hs:s.size<=4000000):Calls prog 230 #[.string s] w fun e w'=>e=.returned (.string (Fe s))/\Below w.heap.size w w':=by
 have hmf:=nI;have V1:Hid (bU (w.alloc (.cells #[.string s] 9)) w.heap.size (.string s) 9):=bU.new _ _ _;have B1:Hid (Below w.heap.size w (w.alloc (.cells #[.string s] 9))):=Ax.alloc nl _;have c0:=V1.o.c;have HV:Hid (Fe s=aG (zO (Fp s) s s.size)):=Cb _ s;go_in;go_wp2_with fail;generalize w.alloc (.cells #[.string s] 9)=w2 at *;refine(vG s _ _ (Fp s) w2 hs (fun _ _=>rfl) ?_).mono ?_
 .intro i hi w' hb';exact af2 s i _ w' hi hs (V1.o.below hb' V1.o.lt)
 .rintro e wq ⟨rfl,hwq⟩;have B3:=hid (AC B1.o hwq);clear hwq;go_wp2_with fail;go_ret;exact⟨by rw[HV.o];rfl,B3.o⟩
theorem af4(s:BY)(w:WD)(hs:s.size<=4000000):Calls prog 231 #[.string s] w fun e w'=>e=.returned (.string (Hw s))/\Below w.heap.size w w':=by
 have hmf:=nI;have V1:Hid (bU (w.alloc (.cells #[.string s] 9)) w.heap.size (.string s) 9):=bU.new _ _ _;have B1:Hid (Below w.heap.size w (w.alloc (.cells #[.string s] 9))):=Ax.alloc nl _;have c0:=V1.o.c;obtain⟨m,Hm⟩:=Nm (aG (zO (fun i=>xH (bt s i)) s s.size));have HV:Hid (Hw s=aG [⟨#[117,114,108,40]⟩,m,⟨#[41]⟩]):=by show _=_;unfold Hw;rw[Cb,Hm.o];simp[aG,akI,b1]
 have hms:m.size<=16000000:=by rw[<-Hm.o,oQ];have:=Ej (fun i=>xH (bt s i)) s s.size;omega
 go_in;go_wp2_with fail;generalize w.alloc (.cells #[.string s] 9)=w2 at *;refine(vG s _ _ (fun i=>xH (bt s i)) w2 hs (fun _ _=>rfl) ?_).mono ?_
 .intro i hi w' hb';exact af0 s i _ w' hi (V1.o.below hb' V1.o.lt)
 .rw[Hm.o];rintro e wq ⟨rfl,hwq⟩;have B3:=hid (AC B1.o hwq);have hs3:=B3.o.size;clear hwq c0;go_wp2_with fail;refine pmb (dQ [⟨#[117,114,108,40]⟩,m,⟨#[41]⟩] wq.heap.size _ _ (row3 wq ⟨#[117,114,108,40]⟩ m ⟨#[41]⟩) Ab (by show 4+(m.size+(1+0))<=_;omega)) fun w5 hb5=>?_;have B5:Hid (Below w.heap.size w w5):=(B3.o.alloc hs3 _).trans (hb5.mono An);clear hb5;go_wp2_with fail;go_ret;exact⟨by rw[HV.o];rfl,B5.o⟩
theorem uf(ok:Nat->UInt8->Bool):∀(l:List UInt8) (i:Nat),(BP ok i l).size<=4*l.length
 |[],i=>by show 0<=_;omega
 |c::r,i=>by
  unfold BP;rw[ByteArray.size_append];have:=uf ok r (i+1);have h2:(if ok i c=true then b1 c else KU c).size<=4:=by
   split
   .show 1<=4;omega
   .show 4<=4;omega
  simp only[List.length_cons];omega
theorem qJ(s:BY):s.data.toList.length=s.size:=Array.length_toList
theorem fQ(s:BY):(dP s).size<=4*s.size:=by have:=uf (dZ s) s.data.toList 0;rw[qJ]at this;exact this
theorem Ih(s:BY):(Fe s).size<=4*s.size:=by have:=uf (fun i c=>dZ s i c&&!(i==0&&(c==101||c==69))) s.data.toList 0;rw[qJ]at this;exact this
theorem Au(s:BY):(xG s).size<=4*s.size+2:=by have:=uf (fun _ c=>jO c) s.data.toList 0;rw[qJ]at this;unfold xG;rw[ByteArray.size_append,ByteArray.size_append];show 1+(_+1)<=_;omega
theorem Vy(s:BY):(Hw s).size<=4*s.size+5:=by have:=uf (fun _ c=>xH c) s.data.toList 0;rw[qJ]at this;unfold Hw;rw[ByteArray.size_append,ByteArray.size_append];show 4+(_+1)<=_;omega
mutual
def Cc:Nd->Nat
 |.mk t k=>4*t.word.size+4*t.unit.size+16+dL k
def dL:List Nd->Nat
 |[]=>0
 |n::r=>Cc n+dL r
end
theorem Ce(t:Tok):(closing t).size<=1:=by
 unfold closing;repeat' split
 all_goals decide
theorem MK(t:Tok)(inn:BY):(Qy t inn).size<=4*t.word.size+4*t.unit.size+12+inn.size:=by
 have h1:=fQ t.word;have h2:=Ih t.unit;have h3:=Au t.word;have h4:=Vy t.word;have h5:=Ce t;have e:∀(c:UInt8),(b1 c).size=1:=fun _=>rfl;unfold Qy;by_cases k1:t.kind=1
 .rw[if_pos k1,e];omega
 rw[if_neg k1];by_cases k2:t.kind=2
 .rw[if_pos k2];omega
 rw[if_neg k2];by_cases k3:t.kind=3
 .rw[if_pos k3];show 2<=_;omega
 rw[if_neg k3];by_cases k4:t.kind=4
 .rw[if_pos k4,ByteArray.size_append];show 1+_<=_;omega
 rw[if_neg k4];by_cases k6:t.kind=6
 .rw[if_pos k6,ByteArray.size_append];show _+1<=_;omega
 rw[if_neg k6];by_cases k7:t.kind=7
 .rw[if_pos k7,ByteArray.size_append];omega
 rw[if_neg k7];by_cases k8:t.kind=8
 .rw[if_pos k8];show 4<=_;omega
 rw[if_neg k8];by_cases k9:t.kind=9
 .rw[if_pos k9];show 3<=_;omega
 rw[if_neg k9];by_cases k10:t.kind=10
 .rw[if_pos k10,ByteArray.size_append];show 1+_<=_;omega
 rw[if_neg k10];by_cases k11:t.kind=11
 .rw[if_pos k11,ByteArray.size_append,ByteArray.size_append,ByteArray.size_append];show _+(1+(_+1))<=_;omega
 rw[if_neg k11];by_cases k12:t.kind=12
 .rw[if_pos k12];omega
 rw[if_neg k12];by_cases k13:t.kind=13
 .rw[if_pos k13];show 6<=_;omega
 rw[if_neg k13];by_cases k14:t.kind=14
 .rw[if_pos k14];omega
 rw[if_neg k14];by_cases k15:t.kind=15
 .rw[if_pos k15,ByteArray.size_append,ByteArray.size_append];omega
 rw[if_neg k15];omega
mutual
theorem Vz:∀(n:Nd),(iM n).size+4<=Cc n
 |.mk t k=>by unfold iM Cc;have:=MK t (l9 none k);have:=vH none k;omega
theorem vH:∀(a:Option Tok) (l:List Nd),(l9 a l).size<=dL l
 |a,[]=>by unfold l9;show 0<=_;omega
 |a,n::r=>by
  unfold l9 dL;have h1:=Vz n;have h2:=vH (some n.t) r;have h3:(Aj a n.t).size<=4:=by
   unfold Aj;split
   .show 0<=4;omega
   .split
    .show 4<=4;omega
    .show 0<=4;omega
  rw[ByteArray.size_append];split
  .have:aA.size=0:=rfl;omega
  .rw[ByteArray.size_append];omega
end
section
attribute [local go_sem] bI bJ aX aY
theorem bf(w:WD)(o:Obj):Below w.heap.size w (w.alloc o):=Ax.alloc nl _
theorem Ci(t:Tok)(ka:Option Addr)(kl kc:Nat)(w:WD):
  Calls prog 163 #[fB t (.slice ka kl kc)] w fun e w'=>e=.returned (.bool (decide (t.kind=1)))/\Below w.heap.size w w':=by
 unfold fB;have A2:Hid (VB (w.alloc (.cells #[.int .i64 t.kind,.string t.word,.string t.unit,.slice ka kl kc] 199)) w.heap.size (.int .i64 t.kind) (.string t.word) (.string t.unit) (.slice ka kl kc)):=VB.new _ _ _ _ _;have B2:Hid (Below w.heap.size w (w.alloc (.cells #[.int .i64 t.kind,.string t.word,.string t.unit,.slice ka kl kc] 199))):=bf _ _;obtain⟨a0,a1,a2,a3⟩:=A2.o.cs;have HV:Hid ((t.kind==1)=decide (t.kind=1)):=by show _=_;rw[Bool.eq_iff_iff];simp
 go_in;go_wp2_with fail;go_ret;exact⟨aC HV.o,B2.o⟩
def markT(t:Tok):Bool:=decide (t.kind=15)&&Yt t.word
theorem QF(t:Tok)(ka:Option Addr)(kl kc:Nat)(w:WD):
  Calls prog 228 #[fB t (.slice ka kl kc)] w fun e w'=>e=.returned (.bool (markT t))/\Below w.heap.size w w':=by
 unfold fB;have A2:Hid (VB (w.alloc (.cells #[.int .i64 t.kind,.string t.word,.string t.unit,.slice ka kl kc] 199)) w.heap.size (.int .i64 t.kind) (.string t.word) (.string t.unit) (.slice ka kl kc)):=VB.new _ _ _ _ _;have B2:Hid (Below w.heap.size w (w.alloc (.cells #[.int .i64 t.kind,.string t.word,.string t.unit,.slice ka kl kc] 199))):=bf _ _;obtain⟨a0,a1,a2,a3⟩:=A2.o.cs;have HM:Hid (markT t=(decide (t.kind=15)&&(decide (t.word=b1 44)||decide (t.word=b1 58)||decide (t.word=b1 59)||decide (t.word=b1 41)||decide (t.word=b1 93)||decide (t.word=b1 125)))):=rfl;have e1:(t.word.toList==[44])=decide (t.word=b1 44):=ay _ _;have e2:(t.word.toList==[58])=decide (t.word=b1 58):=ay _ _;have e3:(t.word.toList==[59])=decide (t.word=b1 59):=ay _ _;have e4:(t.word.toList==[41])=decide (t.word=b1 41):=ay _ _
 have e5:(t.word.toList==[93])=decide (t.word=b1 93):=ay _ _;have e6:(t.word.toList==[125])=decide (t.word=b1 125):=ay _ _;cases hk:(t.kind==15)
 .have hk':¬t.kind=15:=by simpa using hk
  have HV:Hid (markT t=false):=by show _=_;rw[HM.o,decide_eq_false hk'];rfl
  clear hk';go_in;go_wp2_with fail;go_ret;exact⟨aC HV.o.symm,B2.o⟩
 .have hk':t.kind=15:=by simpa using hk
  have HV:Hid (markT t=(decide (t.word=b1 44)||decide (t.word=b1 58)||decide (t.word=b1 59)||decide (t.word=b1 41)||decide (t.word=b1 93)||decide (t.word=b1 125))):=by show _=_;rw[HM.o,decide_eq_true hk'];rfl
  clear hk' HM;generalize decide (t.word=b1 44)=x1 at *;generalize decide (t.word=b1 58)=x2 at *;generalize decide (t.word=b1 59)=x3 at *;generalize decide (t.word=b1 41)=x4 at *;generalize decide (t.word=b1 93)=x5 at *;generalize decide (t.word=b1 125)=x6 at *;cases x1
  .cases x2
   .cases x3
    .cases x4
     .cases x5
      .cases x6
       .go_in;go_wp2_with fail;go_ret;exact⟨aC HV.o.symm,B2.o⟩
       .go_in;go_wp2_with fail;go_ret;exact⟨aC HV.o.symm,B2.o⟩
      .go_in;go_wp2_with fail;go_ret;exact⟨aC HV.o.symm,B2.o⟩
     .go_in;go_wp2_with fail;go_ret;exact⟨aC HV.o.symm,B2.o⟩
    .go_in;go_wp2_with fail;go_ret;exact⟨aC HV.o.symm,B2.o⟩
   .go_in;go_wp2_with fail;go_ret;exact⟨aC HV.o.symm,B2.o⟩
  .go_in;go_wp2_with fail;go_ret;exact⟨aC HV.o.symm,B2.o⟩
def Cj(t:Tok):Bool:=decide (t.kind=1)||!decide (closing t=aA)||markT t
def zQ(t:Tok):Bool:=decide (t.kind=1)||au t (b1 91)||au t (b1 123)||markT t
theorem parts_eq(a b:Tok):parts a b=(!Cj a&&!zQ b):=by unfold parts Cj zQ;rw[show oH a=(decide (a.kind=1)||markT a) from rfl,show oH b=(decide (b.kind=1)||markT b) from rfl];cases decide (a.kind=1)<;>cases decide (b.kind=1)<;>cases markT a<;>cases markT b<;>cases decide (closing a=aA)<;>cases au b (b1 91)<;>cases au b (b1 123)<;>rfl
theorem Fq(t:Tok)(ka:Option Addr)(kl kc:Nat)(w:WD):
  Calls prog 164 #[fB t (.slice ka kl kc)] w fun e w'=>e=.returned (.bool (Cj t))/\Below w.heap.size w w':=by
 have hu:fB t (.slice ka kl kc)=.agg #[.int .i64 t.kind,.string t.word,.string t.unit,.slice ka kl kc]:=rfl;rw[hu];have A2:Hid (VB (w.alloc (.cells #[.int .i64 t.kind,.string t.word,.string t.unit,.slice ka kl kc] 199)) w.heap.size (.int .i64 t.kind) (.string t.word) (.string t.unit) (.slice ka kl kc)):=VB.new _ _ _ _ _;have B2:Hid (Below w.heap.size w (w.alloc (.cells #[.int .i64 t.kind,.string t.word,.string t.unit,.slice ka kl kc] 199))):=bf _ _;obtain⟨a0,a1,a2,a3⟩:=A2.o.cs;obtain⟨x1,H1⟩:=Nm (decide (t.kind=1));obtain⟨x2,H2⟩:=Nm (decide (closing t=aA));have HE:Hid (Cj t=(x1||!x2||markT t)):=by show _=_;unfold Cj;rw[H1.o,H2.o]
 go_in;go_wp2_with fail;generalize w.alloc (.cells #[.int .i64 t.kind,.string t.word,.string t.unit,.slice ka kl kc] 199)=w2 at *;refine(Ci t ka kl kc _).mono ?_;rw[H1.o];rintro e w3 ⟨rfl,hb3⟩;have B3:=hid (AC B2.o hb3);have A3:=hid (A2.o.below hb3);clear hb3 a0 a1 a2 a3;obtain⟨a0,a1,a2,a3⟩:=A3.o.cs;cases x1
 .go_wp2_with fail;refine pmb (G9 t _) fun w4 hb4=>?_;have B4:=hid (AC B3.o hb4);have A4:=hid (A3.o.below hb4);clear hb4 a0 a1 a2 a3;obtain⟨a0,a1,a2,a3⟩:=A4.o.cs;have e1:((closing t).toList==[])=x2:=by rw[<-H2.o];exact ay _ _
  by_cases he:(closing t).toList=[]
  .have HV:Hid (Cj t=markT t):=by show _=_;rw[HE.o,<-e1,he];rfl
   clear e1;go_wp2_with fail;refine pmb (QF t ka kl kc _) fun w5 hb5=>?_;have B5:=hid (AC B4.o hb5);clear hb5;go_wp2_with fail;go_ret;exact⟨aC HV.o.symm,B5.o⟩
  .have HV:Hid (Cj t=true):=by show _=_;rw[HE.o,<-e1,show((closing t).toList==[])=false from by cases hq:(closing t).toList with|nil=>exact absurd hq he|cons _ _=>rfl];rfl
   clear e1;go_wp2_with fail;go_ret;exact⟨aC HV.o.symm,B4.o⟩
 .have HV:Hid (Cj t=true):=HE.o;go_wp2_with fail;go_ret;exact⟨aC HV.o.symm,B3.o⟩
theorem zU(t:Tok)(ka:Option Addr)(kl kc:Nat)(w:WD):
  Calls prog 165 #[fB t (.slice ka kl kc)] w fun e w'=>e=.returned (.bool (zQ t))/\Below w.heap.size w w':=by
 have hu:fB t (.slice ka kl kc)=.agg #[.int .i64 t.kind,.string t.word,.string t.unit,.slice ka kl kc]:=rfl;rw[hu];have A2:Hid (VB (w.alloc (.cells #[.int .i64 t.kind,.string t.word,.string t.unit,.slice ka kl kc] 199)) w.heap.size (.int .i64 t.kind) (.string t.word) (.string t.unit) (.slice ka kl kc)):=VB.new _ _ _ _ _;have B2:Hid (Below w.heap.size w (w.alloc (.cells #[.int .i64 t.kind,.string t.word,.string t.unit,.slice ka kl kc] 199))):=bf _ _;obtain⟨a0,a1,a2,a3⟩:=A2.o.cs;obtain⟨x1,H1⟩:=Nm (decide (t.kind=1));obtain⟨x2,H2⟩:=Nm (au t (b1 91));obtain⟨x3,H3⟩:=Nm (au t (b1 123));have HE:Hid (zQ t=(x1||x2||x3||markT t)):=by show _=_;unfold zQ;rw[H1.o,H2.o,H3.o]
 go_in;go_wp2_with fail;generalize w.alloc (.cells #[.int .i64 t.kind,.string t.word,.string t.unit,.slice ka kl kc] 199)=w2 at *;refine(Ci t ka kl kc _).mono ?_;rw[H1.o];rintro e w3 ⟨rfl,hb3⟩;have B3:=hid (AC B2.o hb3);have A3:=hid (A2.o.below hb3);clear hb3 a0 a1 a2 a3;obtain⟨a0,a1,a2,a3⟩:=A3.o.cs;cases x1
 .go_wp2_with fail;refine(jf t _ (b1 91) _).mono ?_;rw[H2.o];rintro e w4 ⟨rfl,hb4⟩;have B4:=hid (AC B3.o hb4);have A4:=hid (A3.o.below hb4);clear hb4 a0 a1 a2 a3;obtain⟨a0,a1,a2,a3⟩:=A4.o.cs;cases x2
  .go_wp2_with fail;refine(jf t _ (b1 123) _).mono ?_;rw[H3.o];rintro e w5 ⟨rfl,hb5⟩;have B5:=hid (AC B4.o hb5);have A5:=hid (A4.o.below hb5);clear hb5 a0 a1 a2 a3;obtain⟨a0,a1,a2,a3⟩:=A5.o.cs;cases x3
   .have HV:Hid (zQ t=markT t):=HE.o;go_wp2_with fail;refine pmb (QF t ka kl kc _) fun w6 hb6=>?_;have B6:=hid (AC B5.o hb6);clear hb6;go_wp2_with fail;go_ret;exact⟨aC HV.o.symm,B6.o⟩
   .have HV:Hid (zQ t=true):=HE.o;go_wp2_with fail;go_ret;exact⟨aC HV.o.symm,B5.o⟩
  .have HV:Hid (zQ t=true):=HE.o;go_wp2_with fail;go_ret;exact⟨aC HV.o.symm,B4.o⟩
 .have HV:Hid (zQ t=true):=HE.o;go_wp2_with fail;go_ret;exact⟨aC HV.o.symm,B3.o⟩
end
section
attribute [local go_sem] bI bJ aX aY
theorem rw2(w:WD)(a b:BY):(w.alloc (.cells #[.string a,.string b] 9)).ownsRow w.heap.size 9 1 (.slice (some ⟨w.heap.size,0,none⟩) 2 2) 2 ([a,b].map Value.string):=⟨rfl,.inr ⟨w.heap.size,2,_,rfl,Nat.le_refl _,heap_alloc_new w _,Nat.le_refl _,by unfold maxLen;omega,rfl,rfl⟩⟩
theorem mg{a b:BY}(h:a=b):Ending.returned (.string a)=Ending.returned (.string b):=by rw[h]
theorem xJ(w:WD)(o:Obj):Below w.heap.size w ((w.alloc o).drew):=(Ax.alloc nl _).drew
section
variable (wd un:BY) (ka:Option Addr) (kl kc:Nat) (w:WD)
theorem akO:Calls prog 166 #[.agg #[.int .i64 1,.string wd,.string un,.slice ka kl kc]] w fun e w'=>e=.returned (.string (b1 32))/\Below w.heap.size w w':=by have B2:Hid (Below w.heap.size w (w.alloc (.cells #[.int .i64 1,.string wd,.string un,.slice ka kl kc] 199))):=bf _ _;go_in;go_wp2_with fail;go_ret;exact⟨rfl,B2.o⟩
theorem akP:Calls prog 166 #[.agg #[.int .i64 3,.string wd,.string un,.slice ka kl kc]] w fun e w'=>e=.returned (.string (aic))/\Below w.heap.size w w':=by have B2:Hid (Below w.heap.size w (w.alloc (.cells #[.int .i64 3,.string wd,.string un,.slice ka kl kc] 199))):=bf _ _;go_in;go_wp2_with fail;go_ret;exact⟨rfl,B2.o⟩
theorem akQ:Calls prog 166 #[.agg #[.int .i64 8,.string wd,.string un,.slice ka kl kc]] w fun e w'=>e=.returned (.string (aib))/\Below w.heap.size w w':=by have B2:Hid (Below w.heap.size w (w.alloc (.cells #[.int .i64 8,.string wd,.string un,.slice ka kl kc] 199))):=bf _ _;go_in;go_wp2_with fail;go_ret;exact⟨rfl,B2.o⟩
theorem akR:Calls prog 166 #[.agg #[.int .i64 9,.string wd,.string un,.slice ka kl kc]] w fun e w'=>e=.returned (.string (ab7))/\Below w.heap.size w w':=by have B2:Hid (Below w.heap.size w (w.alloc (.cells #[.int .i64 9,.string wd,.string un,.slice ka kl kc] 199))):=bf _ _;go_in;go_wp2_with fail;go_ret;exact⟨rfl,B2.o⟩
theorem aiW:Calls prog 166 #[.agg #[.int .i64 13,.string wd,.string un,.slice ka kl kc]] w fun e w'=>e=.returned (.string (aie))/\Below w.heap.size w w':=by have B2:Hid (Below w.heap.size w (w.alloc (.cells #[.int .i64 13,.string wd,.string un,.slice ka kl kc] 199))):=bf _ _;go_in;go_wp2_with fail;go_ret;exact⟨rfl,B2.o⟩
theorem akS(k:Int)(h1:(k==1)=false)(h2:(k==2)=false)(h3:(k==3)=false)(h4:(k==4)=false)(h6:(k==6)=false)(h7:(k==7)=false)(h8:(k==8)=false)(h9:(k==9)=false)(h10:(k==10)=false)(h11:(k==11)=false)(h12:(k==12)=false)(h13:(k==13)=false)(h14:(k==14)=false)(h15:(k==15)=false):Calls prog 166 #[.agg #[.int .i64 k,.string wd,.string un,.slice ka kl kc]] w fun e w'=>e=.returned (.string wd)/\Below w.heap.size w w':=by have B2:Hid (Below w.heap.size w (w.alloc (.cells #[.int .i64 k,.string wd,.string un,.slice ka kl kc] 199))):=bf _ _;go_in;go_wp2_with fail;go_ret;exact⟨rfl,B2.o⟩
theorem akT(hw:wd.size<=4000000):Calls prog 166 #[.agg #[.int .i64 2,.string wd,.string un,.slice ka kl kc]] w fun e w'=>e=.returned (.string (xG wd))/\Below w.heap.size w w':=by have B2:Hid (Below w.heap.size w (w.alloc (.cells #[.int .i64 2,.string wd,.string un,.slice ka kl kc] 199))):=bf _ _;go_in;go_wp2_with fail;generalize w.alloc (.cells #[.int .i64 2,.string wd,.string un,.slice ka kl kc] 199)=w2 at *;have hs2:=B2.o.size;refine pmb (aci wd _ hw) fun w3 hb3=>?_;have B3:=hid (B2.o.trans (hb3.mono hs2));clear hb3;go_wp2_with fail;go_ret;exact⟨rfl,B3.o⟩
theorem aiX(hw:wd.size<=4000000):Calls prog 166 #[.agg #[.int .i64 12,.string wd,.string un,.slice ka kl kc]] w fun e w'=>e=.returned (.string (Hw wd))/\Below w.heap.size w w':=by have B2:Hid (Below w.heap.size w (w.alloc (.cells #[.int .i64 12,.string wd,.string un,.slice ka kl kc] 199))):=bf _ _;go_in;go_wp2_with fail;generalize w.alloc (.cells #[.int .i64 12,.string wd,.string un,.slice ka kl kc] 199)=w2 at *;have hs2:=B2.o.size;refine pmb (af4 wd _ hw) fun w3 hb3=>?_;have B3:=hid (B2.o.trans (hb3.mono hs2));clear hb3;go_wp2_with fail;go_ret;exact⟨rfl,B3.o⟩
theorem aiY(hw:wd.size<=4000000):Calls prog 166 #[.agg #[.int .i64 14,.string wd,.string un,.slice ka kl kc]] w fun e w'=>e=.returned (.string (dP wd))/\Below w.heap.size w w':=by have B2:Hid (Below w.heap.size w (w.alloc (.cells #[.int .i64 14,.string wd,.string un,.slice ka kl kc] 199))):=bf _ _;go_in;go_wp2_with fail;generalize w.alloc (.cells #[.int .i64 14,.string wd,.string un,.slice ka kl kc] 199)=w2 at *;have hs2:=B2.o.size;refine pmb (oW wd _ hw) fun w3 hb3=>?_;have B3:=hid (B2.o.trans (hb3.mono hs2));clear hb3;go_wp2_with fail;go_ret;exact⟨rfl,B3.o⟩
theorem akU(hw:wd.size<=4000000):Calls prog 166 #[.agg #[.int .i64 4,.string wd,.string un,.slice ka kl kc]] w fun e w'=>e=.returned (.string (b1 35++dP wd))/\Below w.heap.size w w':=by
 have B2:Hid (Below w.heap.size w (w.alloc (.cells #[.int .i64 4,.string wd,.string un,.slice ka kl kc] 199))):=bf _ _;obtain⟨nm,Aw⟩:=Nm (dP wd);have HV:Hid (aG [⟨#[35]⟩,nm]=b1 35++dP wd):=by show _=_;rw[Aw.o];simp[aG,b1]
 have hsz:nm.size<=4*wd.size:=by rw[<-Aw.o];exact fQ wd
 go_in;go_wp2_with fail;generalize w.alloc (.cells #[.int .i64 4,.string wd,.string un,.slice ka kl kc] 199)=w2 at *;have hs2:=B2.o.size;refine(oW wd _ hw).mono ?_;rw[Aw.o];rintro e w3 ⟨rfl,hb3⟩;have B3:=hid (B2.o.trans (hb3.mono hs2));have hs3:=B3.o.size;clear hb3;go_wp2_with fail;refine pmb (dQ [⟨#[35]⟩,nm] w3.heap.size _ _ (rw2 w3 ⟨#[35]⟩ nm) Ab (by show 1+(nm.size+0)<=_;omega)) fun w5 hb5=>?_;have B5:Hid (Below w.heap.size w w5):=(B3.o.alloc hs3 _).trans (hb5.mono An);clear hb5;go_wp2_with fail;go_ret;exact⟨mg HV.o,B5.o⟩
theorem aiZ(hw:wd.size<=4000000):Calls prog 166 #[.agg #[.int .i64 10,.string wd,.string un,.slice ka kl kc]] w fun e w'=>e=.returned (.string (b1 64++dP wd))/\Below w.heap.size w w':=by
 have B2:Hid (Below w.heap.size w (w.alloc (.cells #[.int .i64 10,.string wd,.string un,.slice ka kl kc] 199))):=bf _ _;obtain⟨nm,Aw⟩:=Nm (dP wd);have HV:Hid (aG [⟨#[64]⟩,nm]=b1 64++dP wd):=by show _=_;rw[Aw.o];simp[aG,b1]
 have hsz:nm.size<=4*wd.size:=by rw[<-Aw.o];exact fQ wd
 go_in;go_wp2_with fail;generalize w.alloc (.cells #[.int .i64 10,.string wd,.string un,.slice ka kl kc] 199)=w2 at *;have hs2:=B2.o.size;refine(oW wd _ hw).mono ?_;rw[Aw.o];rintro e w3 ⟨rfl,hb3⟩;have B3:=hid (B2.o.trans (hb3.mono hs2));have hs3:=B3.o.size;clear hb3;go_wp2_with fail;refine pmb (dQ [⟨#[64]⟩,nm] w3.heap.size _ _ (rw2 w3 ⟨#[64]⟩ nm) Ab (by show 1+(nm.size+0)<=_;omega)) fun w5 hb5=>?_;have B5:Hid (Below w.heap.size w w5):=(B3.o.alloc hs3 _).trans (hb5.mono An);clear hb5;go_wp2_with fail;go_ret;exact⟨mg HV.o,B5.o⟩
theorem akV(hw:wd.size<=4000000):Calls prog 166 #[.agg #[.int .i64 6,.string wd,.string un,.slice ka kl kc]] w fun e w'=>e=.returned (.string (wd++b1 37))/\Below w.heap.size w w':=by
 have B2:Hid (Below w.heap.size w (w.alloc (.cells #[.int .i64 6,.string wd,.string un,.slice ka kl kc] 199))):=bf _ _;have HV:Hid (aG [wd,⟨#[37]⟩]=wd++b1 37):=by show _=_;simp[aG,b1]
 have A2:Hid (VB (w.alloc (.cells #[.int .i64 6,.string wd,.string un,.slice ka kl kc] 199)) w.heap.size (.int .i64 6) (.string wd) (.string un) (.slice ka kl kc)):=VB.new _ _ _ _ _;go_in;go_upto_region 11 with fail
 generalize w.alloc (.cells #[.int .i64 6,.string wd,.string un,.slice ka kl kc] 199)=w2 at *;have hs2:=B2.o.size;obtain⟨a0,a1,a2,a3⟩:=A2.o.cs;go_wp2_with fail;refine pmb (dQ [wd,⟨#[37]⟩] w2.heap.size _ _ (rw2 w2 wd ⟨#[37]⟩) Ab (by show wd.size+(1+0)<=_;omega)) fun w5 hb5=>?_;have B5:Hid (Below w.heap.size w w5):=(B2.o.alloc hs2 _).trans (hb5.mono An);clear hb5;go_wp2_with fail;go_ret;exact⟨mg HV.o,B5.o⟩
theorem akW(hw:wd.size<=4000000)(hu:un.size<=4000000):Calls prog 166 #[.agg #[.int .i64 7,.string wd,.string un,.slice ka kl kc]] w fun e w'=>e=.returned (.string (wd++Fe un))/\Below w.heap.size w w':=by
 have B2:Hid (Below w.heap.size w (w.alloc (.cells #[.int .i64 7,.string wd,.string un,.slice ka kl kc] 199)).drew):=xJ _ _;have A2:Hid (VB (w.alloc (.cells #[.int .i64 7,.string wd,.string un,.slice ka kl kc] 199)).drew w.heap.size (.int .i64 7) (.string wd) (.string un) (.slice ka kl kc)):=VB.new _ _ _ _ _;obtain⟨us,Hus⟩:=Nm (Fe un);have HV:Hid (aG [wd,us]=wd++Fe un):=by show _=_;rw[Hus.o];simp[aG]
 have hsz:us.size<=4*un.size:=by rw[<-Hus.o];exact Ih un
 go_in;go_wp2_with fail;refine wp_region_any Ao ?_;change wpAny _ _ _ _ _ _ _ (World.drew _);generalize(w.alloc (.cells #[.int .i64 7,.string wd,.string un,.slice ka kl kc] 199)).drew=w2 at *;have hs2:=B2.o.size;refine wpAny_of_held (S:=fun wx=>VB wx w.heap.size (.int .i64 7) (.string wd) (.string un) (.slice ka kl kc)) _ _ _ _ ?_;refine dH 0 rfl A2.o (by intro w hSw;obtain⟨a0,a1,a2,a3⟩:=hSw.cs;exact gs) ?_;refine dH 1 rfl A2.o (by intro w hSw;obtain⟨a0,a1,a2,a3⟩:=hSw.cs;exact gs) ?_;refine dH 2 rfl A2.o (by intro w hSw;obtain⟨a0,a1,a2,a3⟩:=hSw.cs;exact gs) ?_;refine dH 3 rfl A2.o (by intro w hSw;obtain⟨a0,a1,a2,a3⟩:=hSw.cs;exact gs) ?_
 refine dH 4 rfl A2.o (by intro w hSw;obtain⟨a0,a1,a2,a3⟩:=hSw.cs;exact gs) ?_;refine dH 5 rfl A2.o (by intro w hSw;obtain⟨a0,a1,a2,a3⟩:=hSw.cs;exact gs) ?_;refine iW 6 fun K hK=>?_;go_simp;refine(aiV un _ hu).mono ?_;rw[Hus.o];rintro e w3 ⟨rfl,hb3⟩;have B3:=hid (B2.o.trans (hb3.mono hs2));have A3:=hid (A2.o.below hb3);have hs3:=B3.o.size;clear hb3;refine hK.o _ _ A3.o (fun _=>?_);clear hK K;refine iW 7 fun K hK=>?_;go_simp;refine hK.o _ _ (A3.o.alloc _) (fun _=>?_);clear hK K;refine iW 8 fun K hK=>?_;go_simp;refine pmb (dQ [wd,us] w3.heap.size _ _ (rw2 w3 wd us) Ab (by show wd.size+(us.size+0)<=_;omega)) fun w5 hb5=>?_
 have B5:Hid (Below w.heap.size w w5):=(B3.o.alloc hs3 _).trans (hb5.mono An);have A5:Hid (VB w5 w.heap.size (.int .i64 7) (.string wd) (.string un) (.slice ka kl kc)):=(A3.o.alloc _).below hb5;clear hb5;refine hK.o _ _ A5.o (fun _=>?_);clear hK K;refine iW 9 fun K hK=>?_;go_simp;refine hK.o _ _ (A5.o) (fun _=>?_);clear hK K;refine wpAnyH_done Ao ?_ _;go_wp2_with fail;go_ret;exact⟨mg HV.o,B5.o⟩
end
end
def jps(sep:BY)(ps:List BY):Nat->List BY
 |0=>[]
 |k+1=>jps sep ps k++((if k=0 then [] else [sep])++[ps.getD k aA])
theorem Cm(sep:BY)(ps:List BY)(k:Nat):jps sep ps (k+1)=jps sep ps k++((if k=0 then [] else [sep])++[ps.getD k aA]):=rfl
theorem af5(sep:BY)(ps:List BY)(k:Nat):(jps sep ps k).length<=2*k:=by
 induction k with
 |zero=>simp[jps]
 |succ k ih=>rw[Cm];split<;>simp<;>omega
def acj(sep:BY)(ps:List BY):Nat:=total ps+ps.length*sep.size
theorem aac(sep:BY)(ps:List BY):∀k,k<=ps.length->total (jps sep ps k)<=total (ps.take k)+k*sep.size:=by
 intro k;induction k with
 |zero=>intro _;simp[jps,total]
 |succ k ih=>
  intro hk;have h:=ih oo;rw[Cm,dh,dh,List.take_succ_eq_append_getElem (show k<ps.length by omega),dh,List.getD_eq_getElem?_getD,List.getElem?_eq_getElem (show k<ps.length by omega)];have e:total (if k=0 then [] else [sep])<=sep.size:=by split<;>simp[total]
  rw[Nat.add_mul];simp only[Option.getD_some];omega
theorem acn(sep:BY):∀(ps:List BY) (pre:List BY) (k:Nat),0<k->pre.length=k->aG (jps sep (pre++ps) (k+ps.length))=aG (jps sep (pre++ps) k)++(if ps=[] then aA else sep++jX sep ps):=by
 intro ps;induction ps with
 |nil=>intro pre k hk hp;simp[mO]
 |cons a r ih=>
  intro pre k hk hp;have h:=ih (pre++[a]) (k+1) oo (by simp[hp]);rw[List.append_assoc,List.singleton_append]at h;rw[show k+(a::r).length=k+1+r.length by simp;omega,h,Cm,if_neg oo,qG,qG];have hg:(pre++a::r).getD k aA=a:=by rw[List.getD_eq_getElem?_getD,List.getElem?_append_right oo,hp];simp
  rw[hg,show(if (a::r)=[] then aA else sep++jX sep (a::r))=sep++jX sep (a::r) from if_neg (by simp)];have e1:aG [sep]=sep:=by simp[aG]
  have e2:aG [a]=a:=by simp[aG]
  rw[e1,e2];cases r with
  |nil=>rw[if_pos rfl,mO];rfl
  |cons b q=>rw[if_neg (by simp)];show _++(sep++a)++(sep++jX sep (b::q))=_++(sep++(a++(sep++jX sep (b::q))));rw[ByteArray.append_assoc,ByteArray.append_assoc]
theorem af6(sep:BY)(ps:List BY):aG (jps sep ps ps.length)=jX sep ps:=by
 cases ps with
 |nil=>rfl
 |cons a r=>
  have h:=acn sep r [a] 1 oo rfl;rw[show(a::r).length=1+r.length by simp;omega];rw[List.singleton_append]at h;rw[h];show aG (jps sep (a::r) 1)++_=_;have e:jps sep (a::r) 1=[a]:=rfl;rw[e];cases r with
  |nil=>simp[aG,jX,mO]
  |cons b q=>rw[if_neg (by simp)];simp[aG,jX]
theorem Ii(sep:BY)(ps:List BY)(base:Nat)(v:Av)(w:WD)(h:w.ownsRow base 9 1 v ps.length (ps.map Value.string))(hn:ps.length<=4194304)(ht:acj sep ps<=1099511627776):
  Calls prog 192 #[.string sep,v] w fun e w'=>e=.returned (.string (jX sep ps))/\Below w.heap.size w w':=by
 have HO:=hid h;obtain⟨va,vc,rfl⟩:=kQ h;clear h;obtain⟨iS,wK⟩:=info_str;have HI:=hid wK;clear wK;go_in;go_wp2_with fail;go_loopg[5,10] ps.length (fun gg v5 v10 wr=>∃(u:Av) (k:Nat),u=v5/\k+gg=ps.length/\v10=.int .i64 (k:Int)/\Aside (wr.ownsRow w.heap.size 9 1 u (jps sep ps k).length ((jps sep ps k).map Value.string)/\Below w.heap.size w wr));case atStart=>exact⟨_,0,rfl,oo,rfl,World.ownsRow_nil _ _ _ _,Ax⟩
 case round=>
  obtain⟨u,k,rfl,hk,rfl,hA⟩:=hrel;have O1:=hid hA.o.1;have B1:=hid hA.o.2;clear hA;have hsz:=B1.o.size;have hjl:=af5 sep ps k;by_cases hlt:k<ps.length
  .have h1:(k:Int)<(ps.length:Int):=oo;obtain⟨g,c',hq⟩:∃g c',Value.slice va ps.length vc=.slice (some ⟨g,0,none⟩) ps.length c':=by
    rcases HO.o.2 with⟨hv,hn⟩|⟨g,c',_,hv,_⟩
    .omega
    .exact⟨g,c',hv⟩
   injection hq with hq1 _ hq2
   subst hq1 hq2;have hgl:g<w.heap.size:=(HO.o.lt g rfl).2;have c0:wr.cell? ⟨g,k,none⟩=some (.string (ps.getD k aA)):=by have:=HO.o.cells (g:=g) rfl k (.string (ps.getD k aA)) (by rw[List.getElem?_map,List.getD_eq_getElem?_getD,List.getElem?_eq_getElem hlt];rfl);rw[Addr.add_lit,Nat.zero_add]at this;rw[B1.o.cell (p:=⟨g,_,none⟩) hgl];exact this
   have HJ:Hid (jps sep ps (k+1)=jps sep ps k++((if k=0 then [] else [sep])++[ps.getD k aA])):=Cm sep ps k;generalize ps.getD k aA=x at *;by_cases h0:k=0
   .subst h0;have HJ2:Hid (jps sep ps (0+1)=jps sep ps 0++[x]):=HJ.o;go_wp2_with(at_builtin;go_must(refine wpList_append_own _ rfl _ _ 26 rfl w.heap.size 9 iS (.string ⟨#[]⟩) 1 16 Tryz.underlying26 HI.o.1 HI.o.2.1 HI.o.2.2.1 HI.o.2.2.2 rfl oo u (jps sep ps 0).length ((jps sep ps 0).map Value.string) rfl (O1.o.alloc _) ⟨wr.heap.size,0,none⟩ 1 1 [.string x] rfl rfl (cell_one_new _ _ _) (aT _) As oo An ?_));intro v4 w4 hown4 dS _;have O4:Hid (w4.ownsRow w.heap.size 9 1 v4 (jps sep ps (0+1)).length ((jps sep ps (0+1)).map Value.string)):=by show World.ownsRow _ _ _ _ _ _ _;rw[HJ2.o];first|(rw[List.length_append,List.map_append];exact hown4)|simpa using hown4
    have B4:Hid (Below w.heap.size w w4):=(B1.o.alloc hsz _).grown dS An (fun rr hr=>(O1.o.lt rr hr).1);clear hown4 dS;go_wp2_with fail;go_roundg(gk-1);case measure=>omega
    case rel=>exact⟨v4,0+1,rfl,oo,by congr 1,O4.o,B4.o⟩
   .have h0':(0:Int)<(k:Int):=oo;have HJ2:Hid (jps sep ps (k+1)=(jps sep ps k++[sep])++[x]):=by show _=_;rw[HJ.o,if_neg h0,List.append_assoc]
    clear h0;go_wp2_with(at_builtin;go_must(refine wpList_append_own _ rfl _ _ 26 rfl w.heap.size 9 iS (.string ⟨#[]⟩) 1 16 Tryz.underlying26 HI.o.1 HI.o.2.1 HI.o.2.2.1 HI.o.2.2.2 rfl oo u (jps sep ps k).length ((jps sep ps k).map Value.string) rfl (O1.o.alloc _) ⟨wr.heap.size,0,none⟩ 1 1 [.string sep] rfl rfl (cell_one_new _ _ _) (aT _) As oo An ?_));intro v3 w3 hown3 ab5 _;have O3:Hid (w3.ownsRow w.heap.size 9 1 v3 (jps sep ps k++[sep]).length ((jps sep ps k++[sep]).map Value.string)):=by show World.ownsRow _ _ _ _ _ _ _;first|(rw[List.length_append,List.map_append];exact hown3)|simpa using hown3
    have B3:Hid (Below w.heap.size w w3):=(B1.o.alloc hsz _).grown ab5 An (fun rr hr=>(O1.o.lt rr hr).1);have hs3:=B3.o.size;have hl3:(jps sep ps k++[sep]).length<=2*k+1:=by simp;omega
    clear hown3 ab5 c0;go_wp2_with(at_builtin;go_must(refine wpList_append_own _ rfl _ _ 26 rfl w.heap.size 9 iS (.string ⟨#[]⟩) 1 16 Tryz.underlying26 HI.o.1 HI.o.2.1 HI.o.2.2.1 HI.o.2.2.2 rfl oo v3 (jps sep ps k++[sep]).length ((jps sep ps k++[sep]).map Value.string) rfl (O3.o.alloc _) ⟨w3.heap.size,0,none⟩ 1 1 [.string x] rfl rfl (cell_one_new _ _ _) (aT _) (by unfold maxLen;simp;omega) oo An ?_));intro v4 w4 hown4 dS _;have O4:Hid (w4.ownsRow w.heap.size 9 1 v4 (jps sep ps (k+1)).length ((jps sep ps (k+1)).map Value.string)):=by show World.ownsRow _ _ _ _ _ _ _;rw[HJ2.o];first|(rw[List.length_append,List.map_append];exact hown4)|simpa using hown4
    have B4:Hid (Below w.heap.size w w4):=(B3.o.alloc hs3 _).grown dS An (fun rr hr=>(O3.o.lt rr hr).1);clear hown4 dS;go_wp2_with fail;go_roundg(gk-1);case measure=>omega
    case rel=>exact⟨v4,k+1,rfl,oo,by congr 1,O4.o,B4.o⟩
  .have h1:(ps.length:Int)<=(k:Int):=oo;have hke:k=ps.length:=oo;subst hke;have hjt:=aac sep ps ps.length nl;rw[List.take_of_length_le nl]at hjt;have HV:Hid (aG (jps sep ps ps.length)=jX sep ps):=af6 sep ps;unfold acj at ht;go_wp2_with fail;refine pmb (dQ (jps sep ps ps.length) w.heap.size u _ O1.o oo oo) fun w5 hb5=>?_;have B5:=hid (B1.o.trans (hb5.mono hsz));clear hb5;go_wp2_with fail;go_ret;exact⟨mg HV.o,B5.o⟩
section
attribute [local go_sem] bI bJ aX aY
def sG(c:Nat):Int:=if c=32 then 1 else if c=62 then 2 else if c=43 then 3 else if c=126 then 4 else 0
theorem xK(s:BY):au (hdN []).t s=false:=by simp[au,hdN,Tok.k]
theorem aco{l:List Nd}(h:au (hdN (aH l)).t (b1 62)=true):gU l=some (62,aH (aH l).tail):=by
 unfold gU;cases hd:aH l with
 |nil=>rw[hd,xK]at h;cases h
 |cons n r=>rw[hd]at h;simp only[hdN]at h;simp[dN,h]
theorem VA{l:List Nd}(h0:au (hdN (aH l)).t (b1 62)=false)(h:au (hdN (aH l)).t (b1 43)=true):gU l=some (43,aH (aH l).tail):=by
 unfold gU;cases hd:aH l with
 |nil=>rw[hd,xK]at h;cases h
 |cons n r=>rw[hd]at h h0;simp only[hdN]at h h0;simp[dN,h,h0]
theorem QG{l:List Nd}(h0:au (hdN (aH l)).t (b1 62)=false)(h1:au (hdN (aH l)).t (b1 43)=false)(h:au (hdN (aH l)).t (b1 126)=true):gU l=some (126,aH (aH l).tail):=by
 unfold gU;cases hd:aH l with
 |nil=>rw[hd,xK]at h;cases h
 |cons n r=>rw[hd]at h h0 h1;simp only[hdN]at h h0 h1;simp[dN,h,h0,h1]
theorem QH{l:List Nd}(h0:au (hdN (aH l)).t (b1 62)=false)(h1:au (hdN (aH l)).t (b1 43)=false)(h2:au (hdN (aH l)).t (b1 126)=false)(h:(aH l).length<l.length):gU l=some (32,aH l):=by
 unfold gU;cases hd:aH l with
 |nil=>
  have:l≠[]:=by rintro rfl;simp at h
  simp[this]
 |cons n r=>rw[hd]at h h0 h1 h2;simp only[hdN]at h0 h1 h2;simp only[dN,h0,h1,h2];simp only[Bool.false_eq_true,if_false];rw[if_pos h]
theorem VD{l:List Nd}(h0:au (hdN (aH l)).t (b1 62)=false)(h1:au (hdN (aH l)).t (b1 43)=false)(h2:au (hdN (aH l)).t (b1 126)=false)(h:¬(aH l).length<l.length):gU l=none:=by
 unfold gU;cases hd:aH l with
 |nil=>
  have:l=[]:=by rw[hd]at h;exact List.eq_nil_of_length_eq_zero (by simp only[List.length_nil]at h;omega)
  simp[this]
 |cons n r=>rw[hd]at h h0 h1 h2;simp only[hdN]at h0 h1 h2;simp only[dN,h0,h1,h2];simp only[Bool.false_eq_true,if_false];rw[if_neg h]
theorem Ov(B b:Nat)(sv:Av)(l:List Nd)(w:WD)(h:fV B w b sv l):
  Calls prog 198 #[.pointer (some ⟨b,0,none⟩)] w fun e w'=>∃sv' l',fV B w' b sv' l'/\Turn b w w'/\(gU l=none/\e=.returned (.tuple #[.int .i64 0,.bool false])\/∃c,gU l=some (c,l')/\e=.returned (.tuple #[.int .i64 (sG c),.bool true])):=by
 have R1:=hid h;clear h;obtain⟨d,Hd⟩:=Nm (aH l);obtain⟨bl,Hbl⟩:=Nm (decide (d.length<l.length));go_in;go_wp2_with fail;refine(y7 B b sv l _ R1.o).mono ?_;rw[Hd.o,Hbl.o];rintro e w1 ⟨sv1,rfl,hR1,hT1⟩;have R2:=hid hR1;have T2:=hid hT1;clear hR1 hT1 R1;go_wp2_with fail;refine(oP B b sv1 d (b1 62) _ R2.o).mono ?_;rintro e w2 ⟨Yv,rfl,hR2,hT2⟩;have T3:=hid (T2.o.trans hT2);clear hT2;obtain⟨s1,Az⟩:=Nm (au (hdN d).t (b1 62));rw[Az.o];cases s1
 .have R3:Hid (fV B w2 b Yv d):=by have:=hR2;rw[y5 Az.o]at this;exact this
  clear hR2 R2 T2;go_wp2_with fail;refine(oP B b Yv d (b1 43) _ R3.o).mono ?_;rintro e w3 ⟨Em,rfl,D7,Ox⟩;have T4:=hid (T3.o.trans Ox);clear Ox;obtain⟨s2,Hs2⟩:=Nm (au (hdN d).t (b1 43));rw[Hs2.o];cases s2
  .have R4:Hid (fV B w3 b Em d):=by have:=D7;rw[y5 Hs2.o]at this;exact this
   clear D7 R3 T3;go_wp2_with fail;refine(oP B b Em d (b1 126) _ R4.o).mono ?_;rintro e w4 ⟨sv4,rfl,ZR,hT4⟩;have T5:=hid (T4.o.trans hT4);clear hT4;obtain⟨s3,Hs3⟩:=Nm (au (hdN d).t (b1 126));rw[Hs3.o];cases s3
   .have R5:Hid (fV B w4 b sv4 d):=by have:=ZR;rw[y5 Hs3.o]at this;exact this
    clear ZR R4 T4;cases bl
    .have HV:Hid (gU l=none):=VD (by rw[Hd.o];exact Az.o) (by rw[Hd.o];exact Hs2.o) (by rw[Hd.o];exact Hs3.o) (by rw[Hd.o];have:=Hbl.o;simpa using this);go_wp2_with fail;go_ret2
     exact⟨_,_,R5.o,T5.o,.inl ⟨HV.o,rfl⟩⟩
    .have HV:Hid (gU l=some (32,d)):=by
      have:=QH (l:=l) (by rw[Hd.o];exact Az.o) (by rw[Hd.o];exact Hs2.o) (by rw[Hd.o];exact Hs3.o) (by rw[Hd.o];have:=Hbl.o;simpa using this);rwa[Hd.o]at this
     go_wp2_with fail;go_ret2
     exact⟨_,_,R5.o,T5.o,.inr ⟨32,HV.o,rfl⟩⟩
   .have R5:Hid (fV B w4 b sv4 d.tail):=by have:=ZR;rw[qZ Hs3.o]at this;exact this
    clear ZR R4 T4;have HV:Hid (gU l=some (126,aH d.tail)):=by have:=QG (l:=l) (by rw[Hd.o];exact Az.o) (by rw[Hd.o];exact Hs2.o) (by rw[Hd.o];exact Hs3.o);rwa[Hd.o]at this
    go_wp2_with fail;refine(y7 B b sv4 d.tail _ R5.o).mono ?_;rintro e w6 ⟨sv6,rfl,QI,Qe⟩;have R6:=hid QI;have T6:=hid (T5.o.trans Qe);clear QI Qe;go_wp2_with fail;go_ret2
    exact⟨_,_,R6.o,T6.o,.inr ⟨126,HV.o,rfl⟩⟩
  .have R4:Hid (fV B w3 b Em d.tail):=by have:=D7;rw[qZ Hs2.o]at this;exact this
   clear D7 R3 T3;have HV:Hid (gU l=some (43,aH d.tail)):=by have:=VA (l:=l) (by rw[Hd.o];exact Az.o) (by rw[Hd.o];exact Hs2.o);rwa[Hd.o]at this
   go_wp2_with fail;refine(y7 B b Em d.tail _ R4.o).mono ?_;rintro e w6 ⟨sv6,rfl,QI,Qe⟩;have R6:=hid QI;have T6:=hid (T4.o.trans Qe);clear QI Qe;go_wp2_with fail;go_ret2
   exact⟨_,_,R6.o,T6.o,.inr ⟨43,HV.o,rfl⟩⟩
 .have R3:Hid (fV B w2 b Yv d.tail):=by have:=hR2;rw[qZ Az.o]at this;exact this
  clear hR2 R2 T2;have HV:Hid (gU l=some (62,aH d.tail)):=by have:=aco (l:=l) (by rw[Hd.o];exact Az.o);rwa[Hd.o]at this
  go_wp2_with fail;refine(y7 B b Yv d.tail _ R3.o).mono ?_;rintro e w6 ⟨sv6,rfl,QI,Qe⟩;have R6:=hid QI;have T6:=hid (T3.o.trans Qe);clear QI Qe;go_wp2_with fail;go_ret2
  exact⟨_,_,R6.o,T6.o,.inr ⟨62,HV.o,rfl⟩⟩
end
section
attribute [local go_sem] bI bJ aX aY
def stB(s:BY):Bool:=decide (s=BL\/s=uY\/s=BM\/s=Eh)
theorem ai0(s:BY):stB s=((s.toList==[114,111,111,116])||(s.toList==[102,105,114,115,116,45,99,104,105,108,100])||(s.toList==[108,97,115,116,45,99,104,105,108,100])||(s.toList==[101,109,112,116,121])):=by simp only[ay];unfold stB BL uY BM Eh;simp only[Bool.decide_or,Bool.or_assoc]
theorem aad(s:BY)(w:WD):Calls prog 305 #[.string s] w fun e w'=>e=.returned (.bool (stB s))/\w'=w:=by
 have HV:Hid (stB s=((s.toList==[114,111,111,116])||(s.toList==[102,105,114,115,116,45,99,104,105,108,100])||(s.toList==[108,97,115,116,45,99,104,105,108,100])||(s.toList==[101,109,112,116,121]))):=ai0 s;cases h1:(s.toList==[114,111,111,116])
 .cases h2:(s.toList==[102,105,114,115,116,45,99,104,105,108,100])
  .cases h3:(s.toList==[108,97,115,116,45,99,104,105,108,100])
   .cases h4:(s.toList==[101,109,112,116,121])
    .rw[h1,h2,h3,h4]at HV;go_in;go_wp2_with fail;go_ret;exact⟨aC HV.o.symm,rfl⟩
    .rw[h1,h2,h3,h4]at HV;go_in;go_wp2_with fail;go_ret;exact⟨aC HV.o.symm,rfl⟩
   .rw[h1,h2,h3]at HV;go_in;go_wp2_with fail;go_ret;exact⟨aC HV.o.symm,rfl⟩
  .rw[h1,h2]at HV;go_in;go_wp2_with fail;go_ret;exact⟨aC HV.o.symm,rfl⟩
 .rw[h1]at HV;go_in;go_wp2_with fail;go_ret;exact⟨aC HV.o.symm,rfl⟩
theorem acp{v:Nat}(h:999<v)(l:List UInt8):oN v l=none:=by
 cases l with
 |nil=>unfold oN;rw[if_neg oo]
 |cons c r=>unfold oN;rw[if_neg oo]
theorem Yw{s:BY}{i:Nat}(h:i<s.size):pk s i=((s.data.toList[i]'(by simpa using h)).toNat:Int):=by rw[zK h];rfl
theorem Oy(s:BY)(w:WD)(hs:s.size<=4000000):
  Calls prog 307 #[.string s] w fun e w'=>(oN 0 s.data.toList=none/\e=.returned (.tuple #[.int .i64 0,.bool false])\/∃v:Nat,oN 0 s.data.toList=some v/\e=.returned (.tuple #[.int .i64 (v:Int),.bool true]))/\w'=w:=by
 have hdl:s.data.toList.length=s.size:=by simp
 go_in;go_wp2_with fail;go_loopg[4,8] s.size (fun g v4 v8 wr=>∃(n i:Nat),v4=.int .i64 (n:Int)/\v8=.int .i64 (i:Int)/\i+g=s.size/\n<=999/\Aside (oN 0 s.data.toList=oN n (s.data.toList.drop i)/\w=wr));case atStart=>exact⟨0,0,rfl,rfl,oo,oo,by simp,rfl⟩
 case round=>
  obtain⟨n,i,rfl,rfl,hi,hn,hA⟩:=hrel;have HE:=hid hA.o.1;obtain rfl:=hA.o.2;clear hA;by_cases hlt:i<s.size
  .have h1:(i:Int)<(s.size:Int):=oo;have hix:=gQ s i hlt;have hp0:=abT s i;have hp1:=Yj s i;have HD:Hid (oN n (s.data.toList.drop i)=if 48<=(pk s i).toNat/\(pk s i).toNat<=57/\n<=999 then oN (10*n+(pk s i).toNat-48) (s.data.toList.drop (i+1)) else none):=by
    show _=_;rw[List.drop_eq_getElem_cons (by rw[hdl];exact hlt),Yw hlt];rfl
   have hpp:0<=pk s i:=tK hlt;obtain⟨c,Hc⟩:=Nm (pk s i);rw[Hc.o]at hix hp0 hp1 HD hpp;by_cases h48:c<48
   .have HN:Hid (oN 0 s.data.toList=none):=by
     show _=_;rw[HE.o,HD.o,if_neg oo]
    clear HD;go_wp2_with fail;go_ret2
    exact⟨.inl ⟨HN.o,rfl⟩,rfl⟩
   .by_cases h57:57<c
    .have HN:Hid (oN 0 s.data.toList=none):=by
      show _=_;rw[HE.o,HD.o,if_neg oo]
     clear HD;go_wp2_with fail;go_ret2
     exact⟨.inl ⟨HN.o,rfl⟩,rfl⟩
    .obtain⟨k,rfl⟩:∃k:Nat,c=48+k:=⟨(c-48).toNat,oo⟩;have hk9:k<=9:=oo;have HN:Hid (oN 0 s.data.toList=oN (10*n+k) (s.data.toList.drop (i+1))):=by
      show _=_;rw[HE.o,HD.o,if_pos oo];congr 1
      omega
     have hw1:IntKind.u8.wrap (48+(k:Int)-48)=(k:Int):=by rw[show(48+(k:Int)-48)=(k:Int) from by omega];rw[IntKind.wrap_u8];omega
     clear HD HE hp0 hp1 hpp Hc;by_cases hbig:999<n*10+k
     .have hb2:(999:Int)<(n:Int)*10+(k:Int):=oo;have HB:Hid (oN 0 s.data.toList=none):=by
       show _=_;rw[HN.o,acp oo]
      clear HN;go_wp2_with fail;go_ret2
      exact⟨.inl ⟨HB.o,rfl⟩,rfl⟩
     .have hb2:(n:Int)*10+(k:Int)<=999:=oo;go_wp2_with fail;go_roundg(s.size-(i+1));case measure=>omega
      case rel=>exact⟨n*10+k,i+1,by congr 1,by congr 1,oo,oo,by rw[HN.o,Nat.mul_comm],rfl⟩
  .have h1:(s.size:Int)<=(i:Int):=oo;have HN:Hid (oN 0 s.data.toList=some n):=by
    show _=_;rw[HE.o,List.drop_of_length_le (by rw[hdl];omega)];unfold oN;rw[if_pos hn]
   clear HE;go_wp2_with fail;go_ret2
   exact⟨.inr ⟨n,HN.o,rfl⟩,rfl⟩
end
section
abbrev wV(α:Type):=(Nat->Prop)->WD->α->List Av->Prop
def Fair{α:Type}(C:wV α):Prop:=∀(S S':Nat->Prop) (w w':WD) (x:α) (cs:List Av),(∀g,S g->S' g)->(∀g,S g->w'.heap[g]?=w.heap[g]?)->C S w x cs->C S' w' x cs
def ug{α:Type}(C:wV α)(sz:Nat):Prop:=∀S w x cs,C S w x cs->cs.length=sz
section
variable {α:Type} (C:wV α) (sz:Nat)
def EG(S:Nat->Prop)(w:WD)(x:α)(g o:Nat):Prop:=S g/\∃cs,C S w x cs/\∀j u,cs[j]?=some u->w.cell? ⟨g,o+j,none⟩=some u
def LG(S:Nat->Prop)(w:WD):List α->Nat->Nat->Prop
 |[],_,_=>True
 |x::r,g,o=>EG C S w x g o/\LG S w r g (o+sz)
def SG(S:Nat->Prop)(w:WD)(v:Av)(xs:List α):Prop:=∃(a:Option Addr) (cap:Nat),v=.slice a xs.length cap/\(xs.length<=cap/\xs.length<=2097152)/\(xs≠[]->∃g o,a=some ⟨g,o,none⟩/\LG C sz S w xs g o)
def jC(S:Nat->Prop)(w:WD):List α->List Av->Prop
 |[],cs=>cs=[]
 |x::r,cs=>∃c rest,cs=c++rest/\C S w x c/\jC S w r rest
def MG(T:TypeId)(base:Nat)(w:WD)(v:Av)(xs:List α):Prop:=∃cs,w.ownsRow base T sz v xs.length cs/\jC C (DZ base w v) w xs cs
end
section
variable {α:Type} {C:wV α} {sz:Nat} {S S':Nat->Prop} {w w':WD}
theorem EG.keep(hF:Fair C)(hS:∀g,S g->S' g)(hw:∀g,S g->w'.heap[g]?=w.heap[g]?){x:α}{g o:Nat}(h:EG C S w x g o):EG C S' w' x g o:=by obtain⟨h0,cs,h1,h2⟩:=h;exact⟨hS g h0,cs,hF _ _ _ _ _ _ hS hw h1,fun j u hu=>by rw[World.cell?_of_block (w:=w) (hw g h0)];exact h2 j u hu⟩
theorem LG.keep(hF:Fair C)(hS:∀g,S g->S' g)(hw:∀g,S g->w'.heap[g]?=w.heap[g]?):∀(l:List α) (g o:Nat),LG C sz S w l g o->LG C sz S' w' l g o
 |[],_,_,_=>by simp[LG]
 |_::r,g,o,h=>⟨h.1.keep hF hS hw,LG.keep hF hS hw r g (o+sz) h.2⟩
theorem SG.keep(hF:Fair C){v:Av}{xs:List α}(h:SG C sz S w v xs)(hS:∀g,S g->S' g)(hw:∀g,S g->w'.heap[g]?=w.heap[g]?):SG C sz S' w' v xs:=by obtain⟨a,cap,h1,hc,h2⟩:=h;refine⟨a,cap,h1,hc,fun hn=>?_⟩;obtain⟨g,o,h3,h4⟩:=h2 hn;exact⟨g,o,h3,h4.keep hF hS hw⟩
theorem SG.below(hF:Fair C){B B':Nat}{v:Av}{xs:List α}(h:SG C sz (fun b=>b<B) w v xs)(hb:Below B' w w')(hB:B<=B'):SG C sz (fun b=>b<B) w' v xs:=h.keep hF (fun _ hg=>hg) fun g hg=>hb.block g (Nat.lt_of_lt_of_le hg hB)
theorem SG.mono(hF:Fair C){B B':Nat}{v:Av}{xs:List α}(h:SG C sz (fun b=>b<B) w v xs)(hB:B<=B'):SG C sz (fun b=>b<B') w v xs:=h.keep hF (fun _ hg=>Nat.lt_of_lt_of_le hg hB) fun _ _=>rfl
theorem SG.iE(C:wV α)(sz:Nat)(S:Nat->Prop)(w:WD)(a:Option Addr)(c:Nat):SG C sz S w (.slice a 0 c) []:=⟨a,c,rfl,⟨by simp,by simp⟩,fun h=>absurd rfl h⟩
theorem SG.len{v:Av}{xs:List α}(h:SG C sz S w v xs):xs.length<=2097152:=by obtain⟨_,_,_,hc,_⟩:=h;exact hc.2
theorem SG.form{v:Av}{xs:List α}(h:SG C sz S w v xs):∃a cap,v=.slice a xs.length cap:=by obtain⟨a,cap,h1,_⟩:=h;exact⟨a,cap,h1⟩
theorem SG.here{a:Option Addr}{n cap:Nat}{xs:List α}(h:SG C sz S w (.slice a n cap) xs)(hn:xs≠[]):∃g o,a=some ⟨g,o,none⟩/\LG C sz S w xs g o/\xs.length<=cap:=by obtain⟨a',cap',h1,⟨hc,h6⟩,h2⟩:=h;cases h1;obtain⟨g,o,rfl,h4⟩:=h2 hn;exact⟨g,o,rfl,h4,hc⟩
theorem LG.at:∀(l:List α) (g o i:Nat) (_:LG C sz S w l g o) (hi:i<l.length),EG C S w l[i] g (o+i*sz)
 |_::_,g,o,0,h,_=>by simpa using h.1
 |_::r,g,o,i+1,h,hi=>by have:=LG.at r g (o+sz) i h.2 (by simpa using hi);rw[show o+(i+1)*sz=o+sz+i*sz from by rw[Nat.add_mul];omega];simpa using this
theorem jC.keep(hF:Fair C)(hS:∀g,S g->S' g)(hw:∀g,S g->w'.heap[g]?=w.heap[g]?):∀(l:List α) (cs:List Av),jC C S w l cs->jC C S' w' l cs
 |[],_,h=>h
 |_::r,_,⟨c,rest,h1,h2,h3⟩=>⟨c,rest,h1,hF _ _ _ _ _ _ hS hw h2,jC.keep hF hS hw r rest h3⟩
theorem jC.snoc:∀(l:List α) (cs:List Av) (_:jC C S w l cs) (x:α) (c:List Av) (_:C S w x c),jC C S w (l++[x]) (cs++c)
 |[],cs,h,x,c,hc=>⟨c,[],by simp[show cs=[] from h],hc,rfl⟩
 |_::r,_,⟨c',rest,h1,h2,h3⟩,x,c,hc=>⟨c',rest++c,by simp[h1],h2,jC.snoc r rest h3 x c hc⟩
theorem jC.lies(hZ:ug C sz){g:Nat}(hg:S g):∀(l:List α) (cs:List Av) (o:Nat) (_:jC C S w l cs) (_:∀j u,cs[j]?=some u->w.cell? ⟨g,o+j,none⟩=some u),LG C sz S w l g o
 |[],_,_,_,_=>by simp[LG]
 |_::r,cs,o,⟨c,rest,h1,h2,h3⟩,hc=>by
  subst h1;have hl:=hZ _ _ _ _ h2;refine⟨⟨hg,c,h2,fun j u hu=>hc j u ?_⟩,jC.lies hZ hg r rest (o+sz) h3 fun j u hu=>?_⟩
  .have hj:j<c.length:=(List.getElem?_eq_some_iff.1 hu).1;rw[List.getElem?_append_left hj];exact hu
  .rw[show o+sz+j=o+(j+sz) from by omega];apply hc (j+sz) u
   rw[List.getElem?_append_right oo,hl];simpa using hu
theorem MG.nil(C:wV α)(sz:Nat)(T:TypeId)(base:Nat)(w:WD):MG C sz T base w (.slice none 0 0) []:=⟨[],World.ownsRow_nil _ _ _ _,rfl⟩
theorem MG.sl(hF:Fair C)(hZ:ug C sz){T:TypeId}{base:Nat}{v:Av}{l:List α}(h:MG C sz T base w v l)(h6:l.length<=2097152):SG C sz (oD base w) w v l:=by
 obtain⟨cs,h1,h2⟩:=h;have h3:jC C (oD base w) w l cs:=h2.keep hF (fun g hg=>⟨hg.1,hg.2.1⟩) (fun _ _=>rfl);rcases h1.2 with⟨rfl,hn⟩|⟨g,cap,cur,rfl,hbg,hg,hnc,hrest⟩
 .have:l=[]:=List.eq_nil_of_length_eq_zero hn;subst this;exact SG.iE _ _ _ _ _ _
 .refine⟨_,cap,rfl,⟨hnc,h6⟩,fun _=>⟨g,0,rfl,jC.lies hZ ⟨hbg,(Ay hg)⟩ l cs 0 h3 fun j u hu=>?_⟩⟩;have:=h1.cells (g:=g) rfl j u hu;rw[Addr.add_lit,Nat.zero_add]at this;rw[Nat.zero_add];exact this
theorem MG.lt{T:TypeId}{base:Nat}{v:Av}{l:List α}(h:MG C sz T base w v l):∀k,v.ownBlock=some k->base<=k/\k<w.heap.size:=by obtain⟨cs,h1,_⟩:=h;exact h1.lt
theorem MG.keep(hF:Fair C){T:TypeId}{base:Nat}{v:Av}{l:List α}(h:MG C sz T base w v l)(hs:w.heap.size<=w'.heap.size)(hw:∀g,base<=g->g<w.heap.size->w'.heap[g]?=w.heap[g]?):MG C sz T base w' v l:=by
 obtain⟨cs,h1,h2⟩:=h;refine⟨cs,⟨h1.1,?_⟩,h2.keep hF (fun g hg=>⟨hg.1,by have:=hg.2.1;omega,hg.2.2⟩) (fun g hg=>hw g hg.1 hg.2.1)⟩;rcases h1.2 with hn|⟨g,cap,cur,rfl,hbg,hgg,rest⟩
 .exact .inl hn
 .exact .inr ⟨g,cap,cur,rfl,hbg,by rw[hw g hbg (Ay hgg)];exact hgg,rest⟩
theorem MG.below(hF:Fair C){T:TypeId}{base:Nat}{v:Av}{l:List α}(h:MG C sz T base w v l)(hb:Below w.heap.size w w'):MG C sz T base w' v l:=h.keep hF hb.size fun g _ hg=>hb.block g hg
theorem MG.alloc(hF:Fair C){T:TypeId}{base:Nat}{v:Av}{l:List α}(h:MG C sz T base w v l)(o:Obj):MG C sz T base (w.alloc o) v l:=h.keep hF Ab fun g _ hg=>Below.heap_alloc _ _ _ hg
theorem MG.form{T:TypeId}{base:Nat}{v:Av}{l:List α}(h:MG C sz T base w v l):∃a cap,v=.slice a l.length cap:=by
 obtain⟨cs,h1,_⟩:=h;rcases h1.2 with⟨rfl,hn⟩|⟨g,cap,cur,rfl,_⟩
 .exact⟨none,0,by rw[hn]⟩
 .exact⟨_,_,rfl⟩
theorem MG.snoc(hF:Fair C){T:TypeId}{base:Nat}{v v2:Av}{l:List α}{cs c:List Av}{x:α}(h2:jC C (DZ base w v) w l cs)(hx:C (DZ base w v) w x c)
  (hown:w'.ownsRow base T sz v2 (l.length+1) (cs++c)) (hg:w.grownBy w' v.ownBlock) (hat:v2.ownBlock=v.ownBlock\/v2.ownBlock=some w.heap.size):MG C sz T base w' v2 (l++[x]):=by
 have hS:∀g,DZ base w v g->DZ base w' v2 g:=by
  rintro g ⟨h3,h4,h5⟩;refine⟨h3,Nat.lt_of_lt_of_le h4 hg.size,?_⟩;rcases hat with e|e
  .rw[e];exact h5
  .rw[e];intro e2;cases e2;omega
 have hw:∀g,DZ base w v g->w'.heap[g]?=w.heap[g]?:=fun g hgg=>hg.block g hgg.2.1 hgg.2.2;exact⟨_,by rw[List.length_append];exact hown,jC.snoc _ _ (h2.keep hF hS hw) x c (hF _ _ _ _ _ _ hS hw hx)⟩
theorem MG.apart{β:Type}{D:wV β}{T:TypeId}{base:Nat}{w3 W:WD}{v:Av}{l:List α}{x:β}{c:List Av}(h:MG C sz T base w v l)(hF:Fair D)(hx:D (oD w.heap.size w3) w3 x c)(hbase:base<=w.heap.size)(hs:w3.heap.size<=W.heap.size)(hw:∀g,g<w3.heap.size->W.heap[g]?=w3.heap[g]?):D (DZ base W v) W x c:=hF _ _ _ _ _ _ (fun g hg=>⟨by have:=hg.1;omega,by have:=hg.2;omega,fun e=>by have:=(h.lt g e.symm).2;have:=hg.1;omega⟩) (fun g hg=>hw g hg.2) hx
end
def One{α:Type}(C:wV α)(sz:Nat):wV (List α):=fun S w x cs=>∃v,cs=[v]/\SG C sz S w v x
theorem One.fair{α:Type}{C:wV α}{sz:Nat}(hF:Fair C):Fair (One C sz):=by rintro S S' w w' x cs hS hw ⟨v,h1,h2⟩;exact⟨v,h1,h2.keep hF hS hw⟩
theorem One.sized{α:Type}(C:wV α)(sz:Nat):ug (One C sz) 1:=by rintro S w x cs ⟨v,rfl,_⟩;rfl
end
section
attribute [local go_sem] bI bJ aX aY
def CB(t:Tok):Bool:=decide (t.kind=4)||au t (b1 46)||au t (b1 91)||au t (b1 58)
theorem Ld(B b:Nat)(sv:Av)(l:List Nd)(w:WD)(h:fV B w b sv l):
  Calls prog 256 #[.pointer (some ⟨b,0,none⟩)] w fun e w'=>e=.returned (.bool (CB (hdN l).t))/\Below w.heap.size w w':=by
 have R1:=hid h;clear h;obtain⟨n,Hn⟩:=Nm (hdN l);rw[Hn.o];go_in;go_wp2_with fail;refine(Hg B b sv l _ R1.o).mono ?_;rw[Hn.o];rintro e w1 ⟨kv,rfl,hk,hb1⟩;have B1:=hid hb1;obtain⟨ka,kc,rfl⟩:=hk.form;have hw1:=hb1.size;clear hk hb1;unfold fB;have A2:Hid (VB (w1.alloc (.cells #[.int .i64 n.t.kind,.string n.t.word,.string n.t.unit,.slice ka n.kids.length kc] 199)) w1.heap.size (.int .i64 n.t.kind) (.string n.t.word) (.string n.t.unit) (.slice ka n.kids.length kc)):=VB.new _ _ _ _ _;have B2:Hid (Below w.heap.size w (w1.alloc (.cells #[.int .i64 n.t.kind,.string n.t.word,.string n.t.unit,.slice ka n.kids.length kc] 199))):=B1.o.alloc hw1 _;go_upto_region 2 with fail
 generalize w1.alloc (.cells #[.int .i64 n.t.kind,.string n.t.word,.string n.t.unit,.slice ka n.kids.length kc] 199)=w2 at *;generalize w1.heap.size=gt at *;obtain⟨a0,a1,a2,a3⟩:=A2.o.cs;have hs2:=B2.o.size;cases hk4:(n.t.kind==4)
 .have n4:¬n.t.kind=4:=by simpa using hk4
  go_wp2_with fail;refine pmb (jf n.t _ (b1 46) _) fun w3 hb3=>?_;have B3:=hid (B2.o.trans (hb3.mono hs2));have A3:=hid (A2.o.below hb3);have hs3:=B3.o.size;clear hb3 a0 a1 a2 a3;obtain⟨a0,a1,a2,a3⟩:=A3.o.cs;obtain⟨s1,Az⟩:=Nm (au n.t (b1 46));rw[Az.o];cases s1
  .go_wp2_with fail;refine pmb (jf n.t _ (b1 91) _) fun w4 hb4=>?_;have B4:=hid (B3.o.trans (hb4.mono hs3));have A4:=hid (A3.o.below hb4);have hs4:=B4.o.size;clear hb4 a0 a1 a2 a3;obtain⟨a0,a1,a2,a3⟩:=A4.o.cs;obtain⟨s2,Hs2⟩:=Nm (au n.t (b1 91));rw[Hs2.o];cases s2
   .go_wp2_with fail;refine pmb (jf n.t _ (b1 58) _) fun w5 hb5=>?_;have B5:=hid (B4.o.trans (hb5.mono hs4));have HV:Hid (CB n.t=au n.t (b1 58)):=by show _=_;unfold CB;rw[decide_eq_false n4,Az.o,Hs2.o];rfl
    clear hb5;go_wp2_with fail;go_ret;exact⟨aC HV.o.symm,B5.o⟩
   .have HV:Hid (CB n.t=true):=by show _=_;unfold CB;rw[Hs2.o];simp
    go_wp2_with fail;go_ret;exact⟨aC HV.o.symm,B4.o⟩
  .have HV:Hid (CB n.t=true):=by show _=_;unfold CB;rw[Az.o];simp
   go_wp2_with fail;go_ret;exact⟨aC HV.o.symm,B3.o⟩
 .have n4:n.t.kind=4:=by simpa using hk4
  have HV:Hid (CB n.t=true):=by show _=_;unfold CB;rw[decide_eq_true n4];rfl
  clear n4;go_wp2_with fail;go_ret;exact⟨aC HV.o.symm,B2.o⟩
def fE(k:Nat)(nm h v:BY)(lv:Av)(p:Nat):Av:=
 if k=116 then(if nm=aA then .iface 311 (.agg #[]) else .iface 309 (.agg #[.string nm]))
 else if k=35 then .iface 332 (.agg #[.string nm])
 else if k=46 then .iface 333 (.agg #[.string nm])
 else if k=91 then .iface 341 (.agg #[.string nm,.string h,.string v])
 else if nm=nD then .iface 345 (.agg #[lv])
 else if nm=DY then .iface 346 (.agg #[lv])
 else if nm=nG then .iface 351 (if p=0 then .agg #[.string sZ,.int .i64 0] else if p=1 then .agg #[.string l7,.int .i64 0] else .agg #[.string aA,.int .i64 ((p-2:Nat):Int)])
 else .iface 343 (.agg #[.string nm])
def fO(C:wV Simple):wV Step:=fun S w x cs=>∃av,cs=[.int .i64 (sG x.1),av]/\SG C 1 S w av x.2
def AA(C:wV Simple):wV (List Step):=One (fO C) 2
def aQ:Nat->wV Simple
 |0=>fun _ _ s cs=>match s with|.mk k nm h v l p=>l=[]/\∃a c,cs=[fE k nm h v (.slice a 0 c) p]
 |n+1=>fun S w s cs=>match s with|.mk k nm h v l p=>∃lv,cs=[fE k nm h v lv p]/\SG (AA (aQ n)) 1 S w lv l
theorem fO.fair{C:wV Simple}(hF:Fair C):Fair (fO C):=by rintro S S' w w' x cs hS hw ⟨av,h1,h2⟩;exact⟨av,h1,h2.keep hF hS hw⟩
theorem aQ.fair:∀n,Fair (aQ n)
 |0=>by rintro S S' w w' ⟨k,nm,h,v,l,p⟩ cs _ _ hx;exact hx
 |n+1=>by rintro S S' w w' ⟨k,nm,h,v,l,p⟩ cs hS hw ⟨lv,h1,h2⟩;exact⟨lv,h1,h2.keep (One.fair (fO.fair (aQ.fair n))) hS hw⟩
theorem aQ.sized:∀n,ug (aQ n) 1
 |0=>by rintro S w ⟨k,nm,h,v,l,p⟩ cs ⟨_,a,c,rfl⟩;rfl
 |n+1=>by rintro S w ⟨k,nm,h,v,l,p⟩ cs ⟨lv,rfl,_⟩;rfl
theorem fO.sized(C:wV Simple):ug (fO C) 2:=by rintro S w x cs ⟨av,rfl,_⟩;rfl
theorem aQ.plain(n:Nat)(S:Nat->Prop)(w:WD)(k:Nat)(nm h v:BY)(p:Nat):aQ n S w (.mk k nm h v [] p) [fE k nm h v (.slice none 0 0) p]:=by
 cases n with
 |zero=>exact⟨rfl,_,_,rfl⟩
 |succ n=>exact⟨_,rfl,SG.iE _ _ _ _ _ _⟩
end
section
theorem af7(b:Nat)(w:WD):Calls prog 252 #[.int .i64 (sG b)] w fun e w'=>e=.returned (.string (tV b))/\w'=w:=by
 unfold sG tV;by_cases h1:b=32
 .rw[if_pos h1,if_pos h1];go_in;go_wp2_with fail;go_ret;exact⟨rfl,rfl⟩
 rw[if_neg h1,if_neg h1];by_cases h2:b=62
 .rw[if_pos h2,if_pos (.inl h2)];subst h2;clear h1;go_in;go_wp2_with fail;go_ret;exact⟨rfl,rfl⟩
 rw[if_neg h2];by_cases h3:b=43
 .rw[if_pos h3,if_pos (.inr (.inl h3))];subst h3;clear h1 h2;go_in;go_wp2_with fail;go_ret;exact⟨rfl,rfl⟩
 rw[if_neg h3];by_cases h4:b=126
 .rw[if_pos h4,if_pos (.inr (.inr h4))];subst h4;clear h1 h2 h3;go_in;go_wp2_with fail;go_ret;exact⟨rfl,rfl⟩
 rw[if_neg h4,if_neg (by rintro (h|h|h)<;>omega)];clear h1 h2 h3 h4;go_in;go_wp2_with fail;go_ret;exact⟨rfl,rfl⟩
theorem af8(w:WD):Calls prog 333 #[.agg #[]] w fun e w'=>e=.returned (.string (b1 42))/\Below w.heap.size w w':=by go_in;go_wp2_with fail;go_ret;exact⟨rfl,by first|exact Below.refl _ _|exact bf _ _⟩
section
variable (nm:BY) (w:WD)
theorem ai1(hs:nm.size<=4000000):Calls prog 327 #[.agg #[.string nm]] w fun e w'=>e=.returned (.string (dP nm))/\Below w.heap.size w w':=by have B1:Hid (Below w.heap.size w (w.alloc (.cells #[.string nm] 309))):=bf _ _;go_in;go_wp2_with fail;generalize w.alloc (.cells #[.string nm] 309)=w2 at *;refine pmb (oW nm _ hs) fun w3 hb3=>?_;have B3:=hid (AC B1.o hb3);clear hb3;go_wp2_with fail;go_ret;exact⟨rfl,B3.o⟩
theorem akX(hs:nm.size<=4000000):Calls prog 336 #[.agg #[.string nm]] w fun e w'=>e=.returned (.string (b1 35++dP nm))/\Below w.heap.size w w':=by
 have B1:Hid (Below w.heap.size w (w.alloc (.cells #[.string nm] 332))):=bf _ _;obtain⟨o,Ho⟩:=Nm (dP nm);have HV:Hid (aG [⟨#[35]⟩,o]=b1 35++dP nm):=by show _=_;rw[Ho.o];simp[aG,b1]
 have hsz:o.size<=4*nm.size:=by rw[<-Ho.o];exact fQ nm
 go_in;go_wp2_with fail;generalize w.alloc (.cells #[.string nm] 332)=w2 at *;refine(oW nm _ hs).mono ?_;rw[Ho.o];rintro e w3 ⟨rfl,hb3⟩;have B3:=hid (AC B1.o hb3);have hs3:=B3.o.size;clear hb3;go_wp2_with fail;refine pmb (dQ [⟨#[35]⟩,o] w3.heap.size _ _ (rw2 w3 ⟨#[35]⟩ o) Ab (by show 1+(o.size+0)<=_;omega)) fun w5 hb5=>?_;have B5:Hid (Below w.heap.size w w5):=(B3.o.alloc hs3 _).trans (hb5.mono An);clear hb5;go_wp2_with fail;go_ret;exact⟨mg HV.o,B5.o⟩
theorem acr(hs:nm.size<=4000000):Calls prog 340 #[.agg #[.string nm]] w fun e w'=>e=.returned (.string (b1 46++dP nm))/\Below w.heap.size w w':=by
 have B1:Hid (Below w.heap.size w (w.alloc (.cells #[.string nm] 333))):=bf _ _;obtain⟨o,Ho⟩:=Nm (dP nm);have HV:Hid (aG [⟨#[46]⟩,o]=b1 46++dP nm):=by show _=_;rw[Ho.o];simp[aG,b1]
 have hsz:o.size<=4*nm.size:=by rw[<-Ho.o];exact fQ nm
 go_in;go_wp2_with fail;generalize w.alloc (.cells #[.string nm] 333)=w2 at *;refine(oW nm _ hs).mono ?_;rw[Ho.o];rintro e w3 ⟨rfl,hb3⟩;have B3:=hid (AC B1.o hb3);have hs3:=B3.o.size;clear hb3;go_wp2_with fail;refine pmb (dQ [⟨#[46]⟩,o] w3.heap.size _ _ (rw2 w3 ⟨#[46]⟩ o) Ab (by show 1+(o.size+0)<=_;omega)) fun w5 hb5=>?_;have B5:Hid (Below w.heap.size w w5):=(B3.o.alloc hs3 _).trans (hb5.mono An);clear hb5;go_wp2_with fail;go_ret;exact⟨mg HV.o,B5.o⟩
theorem acs(hs:nm.size<=4000000):Calls prog 358 #[.agg #[.string nm]] w fun e w'=>e=.returned (.string (b1 58++nm))/\Below w.heap.size w w':=by
 have B1:Hid (Below w.heap.size w (w.alloc (.cells #[.string nm] 343))):=bf _ _;have V1:Hid (bU (w.alloc (.cells #[.string nm] 343)) w.heap.size (.string nm) 343):=bU.new _ _ _;have HV:Hid (aG [⟨#[58]⟩,nm]=b1 58++nm):=by show _=_;simp[aG,b1]
 go_in;go_upto_region 1 with fail
 generalize w.alloc (.cells #[.string nm] 343)=w2 at *;have hs2:=B1.o.size;have c0:=V1.o.c;go_wp2_with fail;refine pmb (dQ [⟨#[58]⟩,nm] w2.heap.size _ _ (rw2 w2 ⟨#[58]⟩ nm) Ab (by show 1+(nm.size+0)<=_;omega)) fun w5 hb5=>?_;have B5:Hid (Below w.heap.size w w5):=(B1.o.alloc hs2 _).trans (hb5.mono An);clear hb5;go_wp2_with fail;go_ret;exact⟨mg HV.o,B5.o⟩
end
def A3(w:WD)(b:Nat)(x0 x1 x2:Av):Prop:=w.heap[b]?=some (.cells #[x0,x1,x2] 341 (0,0))
theorem A3.cs{w:WD}{b:Nat}{x0 x1 x2:Av}(h:A3 w b x0 x1 x2):w.cell? ⟨b,0,none⟩=some x0/\w.cell? ⟨b,1,none⟩=some x1/\w.cell? ⟨b,2,none⟩=some x2:=by have h':w.heap[b]?=_:=h;refine⟨?_,?_,?_⟩<;>(unfold World.cell?;rw[h'];rfl)
theorem A3.lt{w:WD}{b:Nat}{x0 x1 x2:Av}(h:A3 w b x0 x1 x2):b<w.heap.size:=(Ay h)
theorem A3.below{w w':WD}{b:Nat}{x0 x1 x2:Av}(h:A3 w b x0 x1 x2)(hb:Below w.heap.size w w'):A3 w' b x0 x1 x2:=by show _=_;rw[hb.block b h.lt];exact h
theorem A3.new(w:WD)(x0 x1 x2:Av):A3 (w.alloc (.cells #[x0,x1,x2] 341)) w.heap.size x0 x1 x2:=heap_alloc_new w _
theorem af9(nm how v:BY)(w:WD)(hs:nm.size<=4000000)(hh:how.size<=10)(hv:v.size<=4000000):Calls prog 344 #[.agg #[.string nm,.string how,.string v]] w fun e w'=>e=.returned (.string (zN nm how v))/\Below w.heap.size w w':=by
 obtain⟨o,Ho⟩:=Nm (dP nm);have hsz:o.size<=4*nm.size:=by rw[<-Ho.o];exact fQ nm
 by_cases he:how.toList=[]
 .have hn:how=aA:=by
   have:=ay how [];rw[he]at this;exact of_decide_eq_true this.symm
  have HV:Hid (aG [⟨#[91]⟩,o,⟨#[93]⟩]=zN nm how v):=by show _=_;unfold zN;rw[if_pos hn,Ho.o];simp[aG,b1]
  clear hn;have B1:Hid (Below w.heap.size w (w.alloc (.cells #[.string nm,.string how,.string v] 341))):=bf _ _;go_in;go_wp2_with fail;generalize w.alloc (.cells #[.string nm,.string how,.string v] 341)=w2 at *;refine(oW nm _ hs).mono ?_;rw[Ho.o];rintro e w3 ⟨rfl,hb3⟩;have B3:=hid (AC B1.o hb3);have hs3:=B3.o.size;clear hb3;go_wp2_with fail;refine pmb (dQ [⟨#[91]⟩,o,⟨#[93]⟩] w3.heap.size _ _ (row3 w3 ⟨#[91]⟩ o ⟨#[93]⟩) Ab (by show 1+(o.size+(1+0))<=_;omega)) fun w5 hb5=>?_;have B5:Hid (Below w.heap.size w w5):=(B3.o.alloc hs3 _).trans (hb5.mono An);clear hb5;go_wp2_with fail;go_ret;exact⟨mg HV.o,B5.o⟩
 .have hn:¬how=aA:=fun e=>he (by rw[e,fC];rfl);have hie:how.toList.isEmpty=false:=by cases hq:how.toList with|nil=>exact absurd hq he|cons _ _=>rfl
  have hib:(how.toList==[])=false:=by cases hq:how.toList with|nil=>exact absurd hq he|cons _ _=>rfl
  obtain⟨tx,Gv⟩:=Nm (xG v);have hst:tx.size<=4*v.size+2:=by rw[<-Gv.o];exact Au v
  have HV:Hid (aG [⟨#[91]⟩,o,how,tx,⟨#[93]⟩]=zN nm how v):=by show _=_;unfold zN;rw[if_neg hn,Ho.o,Gv.o];simp[aG,b1]
  clear hn;have B2:Hid (Below w.heap.size w (w.alloc (.cells #[.string nm,.string how,.string v] 341)).drew):=xJ _ _;have A2:Hid (A3 (w.alloc (.cells #[.string nm,.string how,.string v] 341)).drew w.heap.size (.string nm) (.string how) (.string v)):=A3.new _ _ _ _;go_in;go_wp2_with fail;refine wp_region_any Ao ?_;change wpAny _ _ _ _ _ _ _ (World.drew _);generalize(w.alloc (.cells #[.string nm,.string how,.string v] 341)).drew=w2 at *;have hs2:=B2.o.size;refine wpAny_of_held (S:=fun wx=>A3 wx w.heap.size (.string nm) (.string how) (.string v)) _ _ _ _ ?_;refine dH 0 rfl A2.o (by intro w hSw;obtain⟨a0,a1,a2⟩:=hSw.cs;exact gs) ?_;refine dH 1 rfl A2.o (by intro w hSw;obtain⟨a0,a1,a2⟩:=hSw.cs;exact gs) ?_
  refine dH 3 rfl A2.o (by intro w hSw;obtain⟨a0,a1,a2⟩:=hSw.cs;exact gs) ?_;refine dH 4 rfl A2.o (by intro w hSw;obtain⟨a0,a1,a2⟩:=hSw.cs;exact gs) ?_;refine dH 5 rfl A2.o (by intro w hSw;obtain⟨a0,a1,a2⟩:=hSw.cs;exact gs) ?_;refine dH 6 rfl A2.o (by intro w hSw;obtain⟨a0,a1,a2⟩:=hSw.cs;exact gs) ?_;refine iW 2 fun K hK=>?_;go_simp;refine(oW nm _ hs).mono ?_;rw[Ho.o];rintro e w3 ⟨rfl,hb3⟩;have B3:=hid (B2.o.trans (hb3.mono hs2));have A4:=hid (A2.o.below hb3);have hs3:=B3.o.size;clear hb3;refine hK.o _ _ A4.o (fun _=>?_);clear hK K;refine iW 7 fun K hK=>?_;go_simp;refine(aci v _ hv).mono ?_;rw[Gv.o];rintro e w4 ⟨rfl,hb4⟩
  have B4:=hid (B3.o.trans (hb4.mono hs3));have A5:=hid (A4.o.below hb4);have hs4:=B4.o.size;clear hb4;refine hK.o _ _ A5.o (fun _=>?_);clear hK K;refine iW 8 fun K hK=>?_;go_simp;refine hK.o _ _ (A5.o.below (bf _ _)) (fun _=>?_);clear hK K;refine iW 9 fun K hK=>?_;go_simp;refine pmb (dQ [⟨#[91]⟩,o,how,tx,⟨#[93]⟩] w4.heap.size _ _ (amn w4 ⟨#[91]⟩ o how tx ⟨#[93]⟩) Ab (by show 1+(o.size+(how.size+(tx.size+(1+0))))<=_;omega)) fun w5 hb5=>?_;have B5:Hid (Below w.heap.size w w5):=(B4.o.alloc hs4 _).trans (hb5.mono An);have A6:Hid (A3 w5 w.heap.size (.string nm) (.string how) (.string v)):=(A5.o.below (bf _ _)).below hb5;clear hb5;refine hK.o _ _ A6.o (fun _=>?_);clear hK K;refine iW 10 fun K hK=>?_;go_simp
  refine hK.o _ _ (A6.o) (fun _=>?_);clear hK K;refine wpAnyH_done Ao ?_ _;go_wp2_with fail;go_ret;exact⟨mg HV.o,B5.o⟩
end
def jD[bV](w:WD):Prop:=∀(n:Nat) (w':WD),n<=999->Below w.heap.size w w'->Calls prog 376 #[.int .i64 (n:Int)] w' fun e w''=>e=.returned (.string (H7 n))/\Below w'.heap.size w' w''
theorem jD.below[bV]{w w':WD}{g:Nat}(h:jD w)(hb:Below g w w')(hg:w.heap.size<=g):jD w':=fun n w2 hn hb2=>h n w2 hn ((hb.mono hg).trans (hb2.mono (Nat.le_trans nl hb.size)))
theorem Yx(x:BY):aG [⟨#[58,110,116,104,45,99,104,105,108,100,40]⟩,x,⟨#[41]⟩]=b1 58++(nG++(b1 40++(x++b1 41))):=by
 have e:b1 58++(nG++b1 40)=⟨#[58,110,116,104,45,99,104,105,108,100,40]⟩:=by decide
 show⟨#[58,110,116,104,45,99,104,105,108,100,40]⟩++(x++(b1 41++aG []))=_;rw[<-e,show aG []=aA from rfl,mO];simp only[ByteArray.append_assoc]
theorem aga(x:BY):aG [⟨#[58,110,111,116,40]⟩,x,⟨#[41]⟩]=b1 58++(nD++(b1 40++(x++b1 41))):=by
 have e:b1 58++(nD++b1 40)=⟨#[58,110,111,116,40]⟩:=by decide
 show⟨#[58,110,111,116,40]⟩++(x++(b1 41++aG []))=_;rw[<-e,show aG []=aA from rfl,mO];simp only[ByteArray.append_assoc]
theorem ai2(x:BY):aG [⟨#[58,105,115,40]⟩,x,⟨#[41]⟩]=b1 58++(DY++(b1 40++(x++b1 41))):=by
 have e:b1 58++(DY++b1 40)=⟨#[58,105,115,40]⟩:=by decide
 show⟨#[58,105,115,40]⟩++(x++(b1 41++aG []))=_;rw[<-e,show aG []=aA from rfl,mO];simp only[ByteArray.append_assoc]
def P2(w:WD)(b:Nat)(x0 x1:Av):Prop:=w.heap[b]?=some (.cells #[x0,x1] 351 (0,0))
theorem P2.cs{w:WD}{b:Nat}{x0 x1:Av}(h:P2 w b x0 x1):w.cell? ⟨b,0,none⟩=some x0/\w.cell? ⟨b,1,none⟩=some x1:=by have h':w.heap[b]?=_:=h;refine⟨?_,?_⟩<;>(unfold World.cell?;rw[h'];rfl)
theorem P2.new(w:WD)(x0 x1:Av):P2 (w.alloc (.cells #[x0,x1] 351)) w.heap.size x0 x1:=heap_alloc_new w _
theorem QJ(nm:BY)(w:WD)(hne:(nm.toList==[])=false)(hs:nm.size<=10):Calls prog 374 #[.agg #[.string nm,.int .i64 0]] w fun e w'=>e=.returned (.string (b1 58++(nG++(b1 40++(nm++b1 41)))))/\Below w.heap.size w w':=by
 have B1:Hid (Below w.heap.size w (w.alloc (.cells #[.string nm,.int .i64 0] 351))):=bf _ _;have V1:Hid (P2 (w.alloc (.cells #[.string nm,.int .i64 0] 351)) w.heap.size (.string nm) (.int .i64 0)):=P2.new _ _ _;have HV:Hid (aG [⟨#[58,110,116,104,45,99,104,105,108,100,40]⟩,nm,⟨#[41]⟩]=b1 58++(nG++(b1 40++(nm++b1 41)))):=Yx nm;have hie:nm.toList.isEmpty=false:=by cases hq:nm.toList with|nil=>rw[hq]at hne;cases hne|cons _ _=>rfl
 go_in;go_upto_region 1 with fail
 generalize w.alloc (.cells #[.string nm,.int .i64 0] 351)=w2 at *;have hs2:=B1.o.size;obtain⟨c0,c1⟩:=V1.o.cs;go_wp2_with fail;refine pmb (dQ [⟨#[58,110,116,104,45,99,104,105,108,100,40]⟩,nm,⟨#[41]⟩] w2.heap.size _ _ (row3 w2 _ nm _) Ab (by show 11+(nm.size+(1+0))<=_;omega)) fun w5 hb5=>?_;have B5:Hid (Below w.heap.size w w5):=(B1.o.alloc hs2 _).trans (hb5.mono An);clear hb5;go_wp2_with fail;go_ret;exact⟨mg HV.o,B5.o⟩
theorem acu[bV](n:Nat)(w:WD)(hn:n<=999)(hI:jD w)(hd:(H7 n).size<=100):Calls prog 374 #[.agg #[.string ⟨#[]⟩,.int .i64 (n:Int)]] w fun e w'=>e=.returned (.string (b1 58++(nG++(b1 40++(H7 n++b1 41)))))/\Below w.heap.size w w':=by
 have B1:Hid (Below w.heap.size w (w.alloc (.cells #[.string ⟨#[]⟩,.int .i64 (n:Int)] 351))):=bf _ _;have V1:Hid (P2 (w.alloc (.cells #[.string ⟨#[]⟩,.int .i64 (n:Int)] 351)) w.heap.size (.string ⟨#[]⟩) (.int .i64 (n:Int))):=P2.new _ _ _;obtain⟨d,Hd⟩:=Nm (H7 n);have HI:Hid (Calls prog 376 #[.int .i64 (n:Int)] (w.alloc (.cells #[.string ⟨#[]⟩,.int .i64 (n:Int)] 351)) fun e w''=>e=.returned (.string d)/\Below (w.alloc (.cells #[.string ⟨#[]⟩,.int .i64 (n:Int)] 351)).heap.size (w.alloc (.cells #[.string ⟨#[]⟩,.int .i64 (n:Int)] 351)) w''):=by have:=hI n _ hn B1.o;rwa[Hd.o]at this
 rw[Hd.o]at hd;rw[Hd.o];have HV:Hid (aG [⟨#[58,110,116,104,45,99,104,105,108,100,40]⟩,d,⟨#[41]⟩]=b1 58++(nG++(b1 40++(d++b1 41)))):=Yx d;clear hI;go_in;go_upto_region 1 with fail
 generalize w.alloc (.cells #[.string ⟨#[]⟩,.int .i64 (n:Int)] 351)=w2 at *;have hs2:=B1.o.size;obtain⟨c0,c1⟩:=V1.o.cs;go_wp2_with fail;refine HI.o.mono ?_;rintro e w3 ⟨rfl,hb3⟩;have B3:=hid (B1.o.trans (hb3.mono hs2));have hs3:=B3.o.size;clear hb3 HI c0 c1;go_wp2_with fail;refine pmb (dQ [⟨#[58,110,116,104,45,99,104,105,108,100,40]⟩,d,⟨#[41]⟩] w3.heap.size _ _ (row3 w3 _ d _) Ab (by show 11+(d.size+(1+0))<=_;omega)) fun w5 hb5=>?_;have B5:Hid (Below w.heap.size w w5):=(B3.o.alloc hs3 _).trans (hb5.mono An);clear hb5;go_wp2_with fail;go_ret;exact⟨mg HV.o,B5.o⟩
theorem ai3(la:Option Addr)(ll lc:Nat)(o:BY)(w:WD)(ho:o.size<=549755813888)
  (hL:∀w',Below w.heap.size w w'->Calls prog 324 #[.slice la ll lc] w' fun e w''=>e=.returned (.string o)/\Below w'.heap.size w' w''):
  Calls prog 367 #[.agg #[.slice la ll lc]] w fun e w'=>e=.returned (.string (b1 58++(nD++(b1 40++(o++b1 41)))))/\Below w.heap.size w w':=by
 have B1:Hid (Below w.heap.size w (w.alloc (.cells #[.slice la ll lc] 345))):=bf _ _;have HL:Hid (Calls prog 324 #[.slice la ll lc] (w.alloc (.cells #[.slice la ll lc] 345)) fun e w''=>e=.returned (.string o)/\Below (w.alloc (.cells #[.slice la ll lc] 345)).heap.size (w.alloc (.cells #[.slice la ll lc] 345)) w''):=hL _ B1.o;have HV:Hid (aG [⟨#[58,110,111,116,40]⟩,o,⟨#[41]⟩]=b1 58++(nD++(b1 40++(o++b1 41)))):=aga o;clear hL;go_in;go_wp2_with fail;generalize w.alloc (.cells #[.slice la ll lc] 345)=w2 at *;have hs2:=B1.o.size;refine HL.o.mono ?_;rintro e w3 ⟨rfl,hb3⟩;have B3:=hid (B1.o.trans (hb3.mono hs2));have hs3:=B3.o.size;clear hb3 HL;go_wp2_with fail;refine(dQ [⟨#[58,110,111,116,40]⟩,o,⟨#[41]⟩] w3.heap.size _ _ (row3 w3 _ o _) Ab (by show 5+(o.size+(1+0))<=_;omega)).mono ?_
 rintro e w5 ⟨rfl,hb5⟩;have B5:Hid (Below w.heap.size w w5):=(B3.o.alloc hs3 _).trans (hb5.mono An);clear hb5;go_wp2_with fail;go_ret;exact⟨mg HV.o,B5.o⟩
theorem akY(la:Option Addr)(ll lc:Nat)(o:BY)(w:WD)(ho:o.size<=549755813888)
  (hL:∀w',Below w.heap.size w w'->Calls prog 324 #[.slice la ll lc] w' fun e w''=>e=.returned (.string o)/\Below w'.heap.size w' w''):
  Calls prog 371 #[.agg #[.slice la ll lc]] w fun e w'=>e=.returned (.string (b1 58++(DY++(b1 40++(o++b1 41)))))/\Below w.heap.size w w':=by
 have B1:Hid (Below w.heap.size w (w.alloc (.cells #[.slice la ll lc] 346))):=bf _ _;have HL:Hid (Calls prog 324 #[.slice la ll lc] (w.alloc (.cells #[.slice la ll lc] 346)) fun e w''=>e=.returned (.string o)/\Below (w.alloc (.cells #[.slice la ll lc] 346)).heap.size (w.alloc (.cells #[.slice la ll lc] 346)) w''):=hL _ B1.o;have HV:Hid (aG [⟨#[58,105,115,40]⟩,o,⟨#[41]⟩]=b1 58++(DY++(b1 40++(o++b1 41)))):=ai2 o;clear hL;go_in;go_wp2_with fail;generalize w.alloc (.cells #[.slice la ll lc] 346)=w2 at *;have hs2:=B1.o.size;refine HL.o.mono ?_;rintro e w3 ⟨rfl,hb3⟩;have B3:=hid (B1.o.trans (hb3.mono hs2));have hs3:=B3.o.size;clear hb3 HL;go_wp2_with fail;refine(dQ [⟨#[58,105,115,40]⟩,o,⟨#[41]⟩] w3.heap.size _ _ (row3 w3 _ o _) Ab (by show 4+(o.size+(1+0))<=_;omega)).mono ?_
 rintro e w5 ⟨rfl,hb5⟩;have B5:Hid (Below w.heap.size w w5):=(B3.o.alloc hs3 _).trans (hb5.mono An);clear hb5;go_wp2_with fail;go_ret;exact⟨mg HV.o,B5.o⟩
end Go.Proofs.YtlliliddljkbfaaGreat
namespace Go.Proofs.YtlliliddljkbfaaGreat.Sp
structure Par(p:aI):Prop where
 lt:∀e,e<p.length->parentOf p e<e
 root:∀e,e<p.length->parentOf p e<0->e=0
theorem Fv(p:aI)(q:Int)(k:Nat):gJ p q (k+1)=if parentOf p k=q then gJ p q k++[k] else gJ p q k:=rfl
theorem uh(p:aI)(q:Int):∀(k x:Nat),x∈gJ p q k->x<k
 |k+1,x,h=>by
  unfold gJ at h;split at h
  .rcases List.mem_append.1 h with h|h
   .have:=uh p q k x h;omega
   .simp at h;omega
  .have:=uh p q k x h;omega
theorem AB(p:aI)(q:Int):∀(k:Nat),(gJ p q k).length<=k
 |0=>by simp[gJ]
 |k+1=>by have:=AB p q k;unfold gJ;split<;>simp<;>omega
theorem ng{p:aI}{e:Nat}(h:e<p.length):parentOf p e=p[e].parent:=by unfold parentOf;rw[List.getElem?_eq_getElem h];rfl
