import Derived.Test.YtlliliddljkbfaaGreatDoorC10
import Derived.Test.YtlliliddljkbfaaGreatDoorC12
namespace Go.Proofs.YtlliliddljkbfaaGreatDoor
set_option maxHeartbeats 64000000
set_option maxRecDepth 100000
open Go.Proofs.Tryz (prog)
open Go.RowKit Sp
theorem iK(c:UInt8)(w:World):Calls prog 109 #[.int .u8 (c.toNat:Int)] w fun e w'=>e=.returned (.string (ji c))/\Below w.heap.size w w':=by
 have hc:c.toNat<256:=c.toNat_lt;obtain⟨h,Hh⟩:∃h,Hid (c.toNat/16=h):=⟨_,hid rfl⟩;obtain⟨l,Hl⟩:∃l,Hid (c.toNat%16=l):=⟨_,hid rfl⟩;have hh:h<16:=by have:=Hh.o;omega
 have hl:l<16:=by have:=Hl.o;omega
 have HE:Hid (ji c=(⟨#[92]⟩++b1 (hexD h))++b1 (hexD l)++⟨#[32]⟩):=by show _=_;unfold ji;rw[Hh.o,Hl.o];rfl
 have e1:IntKind.u8.wrap ((c.toNat:Int)/16)=(h:Int):=by have:=Hh.o;rw[IntKind.wrap_u8];omega
 have e2:IntKind.u8.wrap ((c.toNat:Int)%16)=(l:Int):=by have:=Hl.o;rw[IntKind.wrap_u8];omega
 have e3:((c.toNat:Int)/16)=(h:Int):=by have:=Hh.o;omega
 have e4:((c.toNat:Int)%16)=(l:Int):=by have:=Hl.o;omega
 have e7:(c.toNat:Int).tdiv 16=(h:Int):=by rw[Int.tdiv_eq_ediv_of_nonneg oo];exact e3
 have e8:(c.toNat:Int).tmod 16=(l:Int):=by rw[Int.tmod_eq_emod_of_nonneg oo];exact e4
 have e9:IntKind.u8.wrap (h:Int)=(h:Int):=by rw[IntKind.wrap_u8];omega
 have e10:IntKind.u8.wrap (l:Int)=(l:Int):=by rw[IntKind.wrap_u8];omega
 have e5:=zM h hh;have e6:=zM l hl;have s1:=wu h hh;have s2:=wu l hl;have z1:(b1 (hexD h)).size=1:=rfl;have z2:(b1 (hexD l)).size=1:=rfl;obtain⟨x,Hx⟩:∃x,Hid (b1 (hexD h)=x):=⟨_,hid rfl⟩;obtain⟨y,Hy⟩:∃y,Hid (b1 (hexD l)=y):=⟨_,hid rfl⟩;rw[Hx.o]at s1 z1 HE;rw[Hy.o]at s2 z2 HE;go_in;go_wp2_with fail;refine wp_region_any (by kernel_rfl) ?_;change wpAny _ _ _ _ _ _ _ (World.drew _);refine Dq 0 ?_;refine Dq 1 ?_;refine Dq 2 ?_;refine Dq 3 ?_;refine Dq 4 ?_;refine Dq 5 ?_;refine Dq 6 ?_;refine Dq 7 ?_;refine Dq 8 ?_;refine Dq 9 ?_;refine Dq 10 ?_;refine Dq 11 ?_;refine Dq 12 ?_;refine Dq 13 ?_;refine Dq 14 ?_;refine Dq 15 ?_;refine Dq 16 ?_;refine brA 17 fun K hK=>?_;go_simp;refine hK _ _ ?_;clear hK K;refine wpAny_done (by kernel_rfl) ?_ _;go_wp2_with fail;go_ret
 exact⟨iW HE.o.symm,(Below.refl _ _).drew⟩
theorem PN{c:UInt8}:oz c=aP (c.toNat:Int):=by unfold oz aP;rw[Bool.eq_iff_iff];simp only[Bool.and_eq_true,decide_eq_true_eq];omega
theorem rD{c:UInt8}{n:Nat}(h:n<256):c=UInt8.ofNat n↔(c.toNat:Int)=(n:Int):=by
 constructor
 .rintro rfl;rw[UInt8.toNat_ofNat'];omega
 .intro e;apply UInt8.toNat_inj.1;rw[UInt8.toNat_ofNat'];omega
theorem jc(s:ByteArray)(w:World)(hs:s.size<=4000000):Calls prog 61 #[.string s] w fun e w'=>e=.returned (.string (bC s))/\Below w.heap.size w w':=by
 have HA:Hid (aB (kN (fun i=>bn s i (bt s i)) s s.size)=bC s):=(qh (bn s) s).symm;go_in;go_wp2_with fail;go_loopg[3,4] s.size (fun g v3 v4 wr=>∃j:Nat,j+g=s.size/\v4=.int .i64 (j:Int)/\v3=.string (aB (kN (fun i=>bn s i (bt s i)) s j))/\Aside (Below w.heap.size w wr));case atStart=>exact⟨0,oo,rfl,rfl,Below.refl _ _⟩
 case round=>
  obtain⟨j,hj,rfl,rfl,hA⟩:=hrel;have HB:Hid (Below w.heap.size w wr):=hA.o;clear hA;have htot:=pG (fun i=>bn s i (bt s i)) s j;rw[<-kE]at htot;by_cases hlt:j<s.size
  .have h1:(j:Int)<(s.size:Int):=oo;have hpk:=qg hlt;have hix:=aV s j hlt;have hsl:=oV s j hlt;have hsz:(one s j).size=1:=iE hlt;have hsu:=qX (fun i=>bn s i (bt s i)) s j;have hob:=JH hlt;obtain⟨c,Hc⟩:∃c,Hid (bt s j=c):=⟨_,hid rfl⟩;rw[hpk]at hix;simp only[Hc.o]at hix hob hsu;obtain⟨acc,vF⟩:∃acc,Hid (aB (kN (fun i=>bn s i (bt s i)) s j)=acc):=⟨_,hid rfl⟩;rw[vF.o]at htot⊢;have HE:Hid (bn s j c=false->aB (kN (fun i=>bn s i (bt s i)) s (j+1))=acc++ji c):=by
    intro hf;rw[hsu,bU,vF.o,if_neg (by rw[hf];simp)]
   have HP:Hid (bn s j c=true->aB (kN (fun i=>bn s i (bt s i)) s (j+1))=acc++one s j):=by intro hf;rw[hsu,bU,vF.o,if_pos hf,hob]
   have hc256:c.toNat<256:=c.toNat_lt;have hp0:0<s.size:=oo;clear hsu hob hpk;by_cases hd:aP (c.toNat:Int)=true
   .have J3:oz c=true:=by rw[PN];exact hd
    have hdd:48<=c.toNat/\c.toNat<=57:=by unfold aP at hd;simp only[Bool.and_eq_true,decide_eq_true_eq]at hd;omega
    have hl:iY (c.toNat:Int)=false:=by unfold iY;simp;omega
    have afq:((c.toNat:Int)==45)=false:=beq_eq_false_iff_ne.2 oo;by_cases hj0:j=0
    .have hz0:((j:Int)==0)=true:=beq_iff_eq.2 oo;have HF:Hid (bn s j c=false):=by show _=_;unfold bn;rw[if_pos J3,hj0];rfl
     have HV:Hid (aB (kN (fun i=>bn s i (bt s i)) s (j+1))=acc++ji c):=HE.o HF.o;clear hj0 J3;go_wp2_with fail;refine aN (dB _ _) ?_;go_wp2_with fail;refine aN (cO _ _) ?_;go_wp2_with fail;refine(iK c _).mono ?_;obtain⟨x,Hx⟩:∃x,Hid (ji c=x):=⟨_,hid rfl⟩;have hxs:x.size=4:=by rw[<-Hx.o];rfl
     rw[Hx.o]at HV⊢;rintro e w1 ⟨rfl,hb⟩;have HB1:Hid (Below w.heap.size w w1):=HB.o.trans (hb.mono HB.o.size);clear hb;go_wp2_with fail;go_roundg(gk-1);case measure=>omega
     case rel=>exact⟨j+1,oo,by congr 1,by rw[HV.o],HB1.o⟩
    .have hz0:((j:Int)==0)=false:=beq_eq_false_iff_ne.2 oo;have hx0:∀w,(Instr.index 9 (.string s) (.int .i64 0)).run prog w=.ok (.int .u8 (pk s 0)) w:=fun w=>aV s 0 oo w;by_cases hj1:j=1
     .have hz1:((j:Int)==1)=true:=beq_iff_eq.2 oo;by_cases hq:pk s 0=45
      .have hqd:(pk s 0==45)=true:=beq_iff_eq.2 hq;have HF:Hid (bn s j c=false):=by show _=_;unfold bn;rw[if_pos J3,hj1];simp[hq]
       have HV:Hid (aB (kN (fun i=>bn s i (bt s i)) s (j+1))=acc++ji c):=HE.o HF.o;clear hj1 hj0 J3 hq;go_wp2_with fail;refine aN (dB _ _) ?_;go_wp2_with fail;refine aN (cO _ _) ?_;go_wp2_with fail;refine(iK c _).mono ?_;obtain⟨x,Hx⟩:∃x,Hid (ji c=x):=⟨_,hid rfl⟩;have hxs:x.size=4:=by rw[<-Hx.o];rfl
       rw[Hx.o]at HV⊢;rintro e w1 ⟨rfl,hb⟩;have HB1:Hid (Below w.heap.size w w1):=HB.o.trans (hb.mono HB.o.size);clear hb;go_wp2_with fail;go_roundg(gk-1);case measure=>omega
       case rel=>exact⟨j+1,oo,by congr 1,by rw[HV.o],HB1.o⟩
      .have hqd:(pk s 0==45)=false:=beq_eq_false_iff_ne.2 hq;have HF:Hid (bn s j c=true):=by show _=_;unfold bn;rw[if_pos J3,hj1];simp[hq]
       have HV:Hid (aB (kN (fun i=>bn s i (bt s i)) s (j+1))=acc++one s j):=HP.o HF.o;clear hj1 hj0 J3 hq;go_wp2_with fail;refine aN (dB _ _) ?_;go_wp2_with fail;refine aN (cO _ _) ?_;go_wp2_with fail;go_roundg(gk-1);case measure=>omega
       case rel=>exact⟨j+1,oo,by congr 1,by rw[HV.o],HB.o⟩
     .have hz1:((j:Int)==1)=false:=beq_eq_false_iff_ne.2 oo;have HF:Hid (bn s j c=true):=by show _=_;unfold bn;rw[if_pos J3];simp[hj0,hj1]
      have HV:Hid (aB (kN (fun i=>bn s i (bt s i)) s (j+1))=acc++one s j):=HP.o HF.o;clear hj1 hj0 J3;go_wp2_with fail;refine aN (dB _ _) ?_;go_wp2_with fail;refine aN (cO _ _) ?_;go_wp2_with fail;go_roundg(gk-1);case measure=>omega
      case rel=>exact⟨j+1,oo,by congr 1,by rw[HV.o],HB.o⟩
   .have hd':aP (c.toNat:Int)=false:=by simpa using hd
    have J3:¬oz c=true:=by rw[PN];exact hd
    by_cases h45:(c.toNat:Int)=45
    .have hce:c=45:=(rD (n:=45) oo).2 h45;have hl:iY (c.toNat:Int)=false:=by rw[h45];rfl
     have hzc:((c.toNat:Int)==45)=true:=beq_iff_eq.2 h45;by_cases h1s:s.size=1
     .have hz1:((s.size:Int)==1)=true:=beq_iff_eq.2 oo;have HF:Hid (bn s j c=false):=by show _=_;unfold bn;rw[if_neg J3,if_pos hce,h1s];rfl
      have HV:Hid (aB (kN (fun i=>bn s i (bt s i)) s (j+1))=acc++ji c):=HE.o HF.o;clear h1s J3 hce h45 hd;go_wp2_with fail;refine aN (dB _ _) ?_;go_wp2_with fail;refine aN (cO _ _) ?_;go_wp2_with fail;refine(iK c _).mono ?_;obtain⟨x,Hx⟩:∃x,Hid (ji c=x):=⟨_,hid rfl⟩;have hxs:x.size=4:=by rw[<-Hx.o];rfl
      rw[Hx.o]at HV⊢;rintro e w1 ⟨rfl,hb⟩;have HB1:Hid (Below w.heap.size w w1):=HB.o.trans (hb.mono HB.o.size);clear hb;go_wp2_with fail;go_roundg(gk-1);case measure=>omega
      case rel=>exact⟨j+1,oo,by congr 1,by rw[HV.o],HB1.o⟩
     .have hz1:((s.size:Int)==1)=false:=beq_eq_false_iff_ne.2 oo;have HF:Hid (bn s j c=true):=by show _=_;unfold bn;rw[if_neg J3,if_pos hce];simp[h1s]
      have HV:Hid (aB (kN (fun i=>bn s i (bt s i)) s (j+1))=acc++one s j):=HP.o HF.o;clear h1s J3 hce h45 hd;go_wp2_with fail;refine aN (dB _ _) ?_;go_wp2_with fail;refine aN (cO _ _) ?_;go_wp2_with fail;go_roundg(gk-1);case measure=>omega
      case rel=>exact⟨j+1,oo,by congr 1,by rw[HV.o],HB.o⟩
    .have hce:¬c=45:=fun e=>h45 ((rD (n:=45) oo).1 e);have hzc:((c.toNat:Int)==45)=false:=beq_eq_false_iff_ne.2 h45;have h95:(c==95)=decide ((c.toNat:Int)=95):=by rw[Bool.eq_iff_iff];simp only[beq_iff_eq,decide_eq_true_eq];exact rD (n:=95) oo
     have hpl:(ou c||c==95)=(iY (c.toNat:Int)&&decide ((c.toNat:Int)<128)):=by rw[h95];unfold ou iY;rw[Bool.eq_iff_iff];simp only[Bool.and_eq_true,Bool.or_eq_true,decide_eq_true_eq,beq_iff_eq];omega
     by_cases hl:iY (c.toNat:Int)=true
     .by_cases h128:(c.toNat:Int)<128
      .have HF:Hid (bn s j c=true):=by show _=_;unfold bn;rw[if_neg J3,if_neg hce,hpl,hl,decide_eq_true h128];rfl
       have HV:Hid (aB (kN (fun i=>bn s i (bt s i)) s (j+1))=acc++one s j):=HP.o HF.o;clear J3 hce h45 hd hpl h95;go_wp2_with fail;refine aN (dB _ _) ?_;go_wp2_with fail;refine aN (cO _ _) ?_;go_wp2_with fail;go_roundg(gk-1);case measure=>omega
       case rel=>exact⟨j+1,oo,by congr 1,by rw[HV.o],HB.o⟩
      .have HF:Hid (bn s j c=false):=by show _=_;unfold bn;rw[if_neg J3,if_neg hce,hpl,hl,decide_eq_false h128];rfl
       have HV:Hid (aB (kN (fun i=>bn s i (bt s i)) s (j+1))=acc++ji c):=HE.o HF.o;clear J3 hce h45 hd hpl h95;go_wp2_with fail;refine aN (dB _ _) ?_;go_wp2_with fail;refine aN (cO _ _) ?_;go_wp2_with fail;refine(iK c _).mono ?_;obtain⟨x,Hx⟩:∃x,Hid (ji c=x):=⟨_,hid rfl⟩;have hxs:x.size=4:=by rw[<-Hx.o];rfl
       rw[Hx.o]at HV⊢;rintro e w1 ⟨rfl,hb⟩;have HB1:Hid (Below w.heap.size w w1):=HB.o.trans (hb.mono HB.o.size);clear hb;go_wp2_with fail;go_roundg(gk-1);case measure=>omega
       case rel=>exact⟨j+1,oo,by congr 1,by rw[HV.o],HB1.o⟩
     .have hl':iY (c.toNat:Int)=false:=by simpa using hl
      have HF:Hid (bn s j c=false):=by show _=_;unfold bn;rw[if_neg J3,if_neg hce,hpl,hl'];rfl
      have HV:Hid (aB (kN (fun i=>bn s i (bt s i)) s (j+1))=acc++ji c):=HE.o HF.o;clear J3 hce h45 hd hpl h95 hl;go_wp2_with fail;refine aN (dB _ _) ?_;go_wp2_with fail;refine aN (cO _ _) ?_;go_wp2_with fail;refine(iK c _).mono ?_;obtain⟨x,Hx⟩:∃x,Hid (ji c=x):=⟨_,hid rfl⟩;have hxs:x.size=4:=by rw[<-Hx.o];rfl
      rw[Hx.o]at HV⊢;rintro e w1 ⟨rfl,hb⟩;have HB1:Hid (Below w.heap.size w w1):=HB.o.trans (hb.mono HB.o.size);clear hb;go_wp2_with fail;go_roundg(gk-1);case measure=>omega
      case rel=>exact⟨j+1,oo,by congr 1,by rw[HV.o],HB1.o⟩
  .have h1:(s.size:Int)<=(j:Int):=oo;have hjs:j=s.size:=oo;have HV:Hid (aB (kN (fun i=>bn s i (bt s i)) s j)=bC s):=by rw[hjs];exact HA.o
   clear hjs;go_wp2_with fail;go_ret;exact⟨iW HV.o,HB.o⟩
theorem I5(s:ByteArray)(w:World)(hs:s.size<=4000000):Calls prog 181 #[.string s] w fun e w'=>e=.returned (.string (oK s))/\Below w.heap.size w w':=by
 have HA:Hid (((⟨#[34]⟩:ByteArray)++aB (kN (fun i=>eF (bt s i)) s s.size))++(⟨#[34]⟩:ByteArray)=oK s):=by show _=_;unfold oK;rw[qh (fun _ c=>eF c) s,ByteArray.append_assoc];rfl
 go_in;go_wp2_with fail;go_loopg[3,4] s.size (fun g v3 v4 wr=>∃j:Nat,j+g=s.size/\v4=.int .i64 (j:Int)/\v3=.string ((⟨#[34]⟩:ByteArray)++aB (kN (fun i=>eF (bt s i)) s j))/\Aside (Below w.heap.size w wr));case atStart=>exact⟨0,oo,rfl,rfl,Below.refl _ _⟩
 case round=>
  obtain⟨j,hj,rfl,rfl,hA⟩:=hrel;have HB:Hid (Below w.heap.size w wr):=hA.o;clear hA;have htot:=pG (fun i=>eF (bt s i)) s j;rw[<-kE]at htot;have WC:((⟨#[34]⟩:ByteArray)++aB (kN (fun i=>eF (bt s i)) s j)).size<=4*j+4:=by
   rw[ByteArray.size_append];have:((⟨#[34]⟩:ByteArray)).size<=4:=by decide
   omega
  clear htot;by_cases hlt:j<s.size
  .have h1:(j:Int)<(s.size:Int):=oo;have hpk:=qg hlt;have hix:=aV s j hlt;have hsl:=oV s j hlt;have hsz:(one s j).size=1:=iE hlt;have hsu:=qX (fun i=>eF (bt s i)) s j;have hob:=JH hlt;obtain⟨c,Hc⟩:∃c,Hid (bt s j=c):=⟨_,hid rfl⟩;rw[hpk]at hix;simp only[Hc.o]at hix hob hsu;obtain⟨acc,vF⟩:∃acc,Hid ((⟨#[34]⟩:ByteArray)++aB (kN (fun i=>eF (bt s i)) s j)=acc):=⟨_,hid rfl⟩;rw[vF.o]at WC⊢;have HE:Hid (eF c=false->(⟨#[34]⟩:ByteArray)++aB (kN (fun i=>eF (bt s i)) s (j+1))=acc++ji c):=by
    intro hf;rw[hsu,bU,<-ByteArray.append_assoc,vF.o,if_neg (by rw[hf];simp)]
   have HP:Hid (eF c=true->(⟨#[34]⟩:ByteArray)++aB (kN (fun i=>eF (bt s i)) s (j+1))=acc++one s j):=by intro hf;rw[hsu,bU,<-ByteArray.append_assoc,vF.o,if_pos hf,hob]
   have hc256:c.toNat<256:=c.toNat_lt;clear hsu hob hpk;have e34:(c==34)=decide ((c.toNat:Int)=34):=by rw[Bool.eq_iff_iff];simp only[beq_iff_eq,decide_eq_true_eq];exact rD (n:=34) oo
   have e92:(c==92)=decide ((c.toNat:Int)=92):=by rw[Bool.eq_iff_iff];simp only[beq_iff_eq,decide_eq_true_eq];exact rD (n:=92) oo
   have e60:(c==60)=decide ((c.toNat:Int)=60):=by rw[Bool.eq_iff_iff];simp only[beq_iff_eq,decide_eq_true_eq];exact rD (n:=60) oo
   have e62:(c==62)=decide ((c.toNat:Int)=62):=by rw[Bool.eq_iff_iff];simp only[beq_iff_eq,decide_eq_true_eq];exact rD (n:=62) oo
   have hpl:eF c=(decide ((32:Int)<=(c.toNat:Int))&&decide ((c.toNat:Int)<=126)&&!(decide ((c.toNat:Int)=34)||decide ((c.toNat:Int)=92)||decide ((c.toNat:Int)=60)||decide ((c.toNat:Int)=62))):=by
    have n1:decide (32<=c.toNat)=decide ((32:Int)<=(c.toNat:Int)):=by rw[decide_eq_decide];omega
    have n2:decide (c.toNat<=126)=decide ((c.toNat:Int)<=126):=by rw[decide_eq_decide];omega
    unfold eF;rw[e34,e92,e60,e62,n1,n2]
   clear e34 e92 e60 e62;by_cases a1:(c.toNat:Int)<32
   .have HF:Hid (eF c=false):=by show _=_;rw[hpl];rw[decide_eq_false (show ¬(32:Int)<=(c.toNat:Int) by omega)];rfl
    have HV:Hid ((⟨#[34]⟩:ByteArray)++aB (kN (fun i=>eF (bt s i)) s (j+1))=acc++ji c):=HE.o HF.o;clear hpl;go_wp2_with fail;refine(iK c _).mono ?_;obtain⟨x,Hx⟩:∃x,Hid (ji c=x):=⟨_,hid rfl⟩;have hxs:x.size=4:=by rw[<-Hx.o];rfl
    rw[Hx.o]at HV⊢;rintro e w1 ⟨rfl,hb⟩;have HB1:Hid (Below w.heap.size w w1):=HB.o.trans (hb.mono HB.o.size);clear hb;go_wp2_with fail;go_roundg(gk-1);case measure=>omega
    case rel=>exact⟨j+1,oo,by congr 1,by rw[HV.o],HB1.o⟩
   have a1':(32:Int)<=(c.toNat:Int):=oo;by_cases a2:(126:Int)<(c.toNat:Int)
   .have HF:Hid (eF c=false):=by show _=_;rw[hpl];rw[decide_eq_false (show ¬(c.toNat:Int)<=126 by omega)];simp
    have HV:Hid ((⟨#[34]⟩:ByteArray)++aB (kN (fun i=>eF (bt s i)) s (j+1))=acc++ji c):=HE.o HF.o;clear hpl;go_wp2_with fail;refine(iK c _).mono ?_;obtain⟨x,Hx⟩:∃x,Hid (ji c=x):=⟨_,hid rfl⟩;have hxs:x.size=4:=by rw[<-Hx.o];rfl
    rw[Hx.o]at HV⊢;rintro e w1 ⟨rfl,hb⟩;have HB1:Hid (Below w.heap.size w w1):=HB.o.trans (hb.mono HB.o.size);clear hb;go_wp2_with fail;go_roundg(gk-1);case measure=>omega
    case rel=>exact⟨j+1,oo,by congr 1,by rw[HV.o],HB1.o⟩
   have a2':(c.toNat:Int)<=126:=oo;by_cases a3:(c.toNat:Int)=34
   .have b3:((c.toNat:Int)==34)=true:=beq_iff_eq.2 a3;have HF:Hid (eF c=false):=by show _=_;rw[hpl];rw[a3];rfl
    have HV:Hid ((⟨#[34]⟩:ByteArray)++aB (kN (fun i=>eF (bt s i)) s (j+1))=acc++ji c):=HE.o HF.o;clear hpl a3;go_wp2_with fail;refine(iK c _).mono ?_;obtain⟨x,Hx⟩:∃x,Hid (ji c=x):=⟨_,hid rfl⟩;have hxs:x.size=4:=by rw[<-Hx.o];rfl
    rw[Hx.o]at HV⊢;rintro e w1 ⟨rfl,hb⟩;have HB1:Hid (Below w.heap.size w w1):=HB.o.trans (hb.mono HB.o.size);clear hb;go_wp2_with fail;go_roundg(gk-1);case measure=>omega
    case rel=>exact⟨j+1,oo,by congr 1,by rw[HV.o],HB1.o⟩
   have b3:((c.toNat:Int)==34)=false:=beq_eq_false_iff_ne.2 a3;by_cases a4:(c.toNat:Int)=92
   .have b4:((c.toNat:Int)==92)=true:=beq_iff_eq.2 a4;have HF:Hid (eF c=false):=by show _=_;rw[hpl];rw[a4];rfl
    have HV:Hid ((⟨#[34]⟩:ByteArray)++aB (kN (fun i=>eF (bt s i)) s (j+1))=acc++ji c):=HE.o HF.o;clear hpl a4;go_wp2_with fail;refine(iK c _).mono ?_;obtain⟨x,Hx⟩:∃x,Hid (ji c=x):=⟨_,hid rfl⟩;have hxs:x.size=4:=by rw[<-Hx.o];rfl
    rw[Hx.o]at HV⊢;rintro e w1 ⟨rfl,hb⟩;have HB1:Hid (Below w.heap.size w w1):=HB.o.trans (hb.mono HB.o.size);clear hb;go_wp2_with fail;go_roundg(gk-1);case measure=>omega
    case rel=>exact⟨j+1,oo,by congr 1,by rw[HV.o],HB1.o⟩
   have b4:((c.toNat:Int)==92)=false:=beq_eq_false_iff_ne.2 a4;by_cases a5:(c.toNat:Int)=60
   .have b5:((c.toNat:Int)==60)=true:=beq_iff_eq.2 a5;have HF:Hid (eF c=false):=by show _=_;rw[hpl];rw[a5];rfl
    have HV:Hid ((⟨#[34]⟩:ByteArray)++aB (kN (fun i=>eF (bt s i)) s (j+1))=acc++ji c):=HE.o HF.o;clear hpl a5;go_wp2_with fail;refine(iK c _).mono ?_;obtain⟨x,Hx⟩:∃x,Hid (ji c=x):=⟨_,hid rfl⟩;have hxs:x.size=4:=by rw[<-Hx.o];rfl
    rw[Hx.o]at HV⊢;rintro e w1 ⟨rfl,hb⟩;have HB1:Hid (Below w.heap.size w w1):=HB.o.trans (hb.mono HB.o.size);clear hb;go_wp2_with fail;go_roundg(gk-1);case measure=>omega
    case rel=>exact⟨j+1,oo,by congr 1,by rw[HV.o],HB1.o⟩
   have b5:((c.toNat:Int)==60)=false:=beq_eq_false_iff_ne.2 a5;by_cases a6:(c.toNat:Int)=62
   .have b6:((c.toNat:Int)==62)=true:=beq_iff_eq.2 a6;have HF:Hid (eF c=false):=by show _=_;rw[hpl];rw[a6];rfl
    have HV:Hid ((⟨#[34]⟩:ByteArray)++aB (kN (fun i=>eF (bt s i)) s (j+1))=acc++ji c):=HE.o HF.o;clear hpl a6;go_wp2_with fail;refine(iK c _).mono ?_;obtain⟨x,Hx⟩:∃x,Hid (ji c=x):=⟨_,hid rfl⟩;have hxs:x.size=4:=by rw[<-Hx.o];rfl
    rw[Hx.o]at HV⊢;rintro e w1 ⟨rfl,hb⟩;have HB1:Hid (Below w.heap.size w w1):=HB.o.trans (hb.mono HB.o.size);clear hb;go_wp2_with fail;go_roundg(gk-1);case measure=>omega
    case rel=>exact⟨j+1,oo,by congr 1,by rw[HV.o],HB1.o⟩
   have b6:((c.toNat:Int)==62)=false:=beq_eq_false_iff_ne.2 a6;have HF:Hid (eF c=true):=by show _=_;rw[hpl];rw[decide_eq_true a1',decide_eq_true a2',decide_eq_false a3,decide_eq_false a4,decide_eq_false a5,decide_eq_false a6];rfl
   have HV:Hid ((⟨#[34]⟩:ByteArray)++aB (kN (fun i=>eF (bt s i)) s (j+1))=acc++one s j):=HP.o HF.o;clear hpl a3 a4 a5 a6;go_wp2_with fail;go_roundg(gk-1);case measure=>omega
   case rel=>exact⟨j+1,oo,by congr 1,by rw[HV.o],HB.o⟩
  .have h1:(s.size:Int)<=(j:Int):=oo;have hjs:j=s.size:=oo;obtain⟨acc,vF⟩:∃acc,Hid ((⟨#[34]⟩:ByteArray)++aB (kN (fun i=>eF (bt s i)) s j)=acc):=⟨_,hid rfl⟩;have HV:Hid (acc++(⟨#[34]⟩:ByteArray)=oK s):=by rw[<-vF.o,hjs];exact HA.o
   rw[vF.o]at WC⊢;clear hjs;go_wp2_with fail;go_ret;exact⟨iW HV.o,HB.o⟩
theorem TW(s:ByteArray)(w:World)(hs:s.size<=4000000):Calls prog 183 #[.string s] w fun e w'=>e=.returned (.string (tZ s))/\Below w.heap.size w w':=by
 have HA:Hid (((⟨#[117,114,108,40]⟩:ByteArray)++aB (kN (fun i=>dQ (bt s i)) s s.size))++(⟨#[41]⟩:ByteArray)=tZ s):=by show _=_;unfold tZ;rw[qh (fun _ c=>dQ c) s,ByteArray.append_assoc];rfl
 go_in;go_wp2_with fail;go_loopg[3,4] s.size (fun g v3 v4 wr=>∃j:Nat,j+g=s.size/\v4=.int .i64 (j:Int)/\v3=.string ((⟨#[117,114,108,40]⟩:ByteArray)++aB (kN (fun i=>dQ (bt s i)) s j))/\Aside (Below w.heap.size w wr));case atStart=>exact⟨0,oo,rfl,rfl,Below.refl _ _⟩
 case round=>
  obtain⟨j,hj,rfl,rfl,hA⟩:=hrel;have HB:Hid (Below w.heap.size w wr):=hA.o;clear hA;have htot:=pG (fun i=>dQ (bt s i)) s j;rw[<-kE]at htot;have WC:((⟨#[117,114,108,40]⟩:ByteArray)++aB (kN (fun i=>dQ (bt s i)) s j)).size<=4*j+4:=by
   rw[ByteArray.size_append];have:((⟨#[117,114,108,40]⟩:ByteArray)).size<=4:=by decide
   omega
  clear htot;by_cases hlt:j<s.size
  .have h1:(j:Int)<(s.size:Int):=oo;have hpk:=qg hlt;have hix:=aV s j hlt;have hsl:=oV s j hlt;have hsz:(one s j).size=1:=iE hlt;have hsu:=qX (fun i=>dQ (bt s i)) s j;have hob:=JH hlt;obtain⟨c,Hc⟩:∃c,Hid (bt s j=c):=⟨_,hid rfl⟩;rw[hpk]at hix;simp only[Hc.o]at hix hob hsu;obtain⟨acc,vF⟩:∃acc,Hid ((⟨#[117,114,108,40]⟩:ByteArray)++aB (kN (fun i=>dQ (bt s i)) s j)=acc):=⟨_,hid rfl⟩;rw[vF.o]at WC⊢;have HE:Hid (dQ c=false->(⟨#[117,114,108,40]⟩:ByteArray)++aB (kN (fun i=>dQ (bt s i)) s (j+1))=acc++ji c):=by
    intro hf;rw[hsu,bU,<-ByteArray.append_assoc,vF.o,if_neg (by rw[hf];simp)]
   have HP:Hid (dQ c=true->(⟨#[117,114,108,40]⟩:ByteArray)++aB (kN (fun i=>dQ (bt s i)) s (j+1))=acc++one s j):=by intro hf;rw[hsu,bU,<-ByteArray.append_assoc,vF.o,if_pos hf,hob]
   have hc256:c.toNat<256:=c.toNat_lt;clear hsu hob hpk;have e46:(c==46)=decide ((c.toNat:Int)=46):=by rw[Bool.eq_iff_iff];simp only[beq_iff_eq,decide_eq_true_eq];exact rD (n:=46) oo
   have e47:(c==47)=decide ((c.toNat:Int)=47):=by rw[Bool.eq_iff_iff];simp only[beq_iff_eq,decide_eq_true_eq];exact rD (n:=47) oo
   have e58:(c==58)=decide ((c.toNat:Int)=58):=by rw[Bool.eq_iff_iff];simp only[beq_iff_eq,decide_eq_true_eq];exact rD (n:=58) oo
   have e45:(c==45)=decide ((c.toNat:Int)=45):=by rw[Bool.eq_iff_iff];simp only[beq_iff_eq,decide_eq_true_eq];exact rD (n:=45) oo
   have hpl:dQ c=((iY (c.toNat:Int)&&decide ((c.toNat:Int)<128)&&!decide ((c.toNat:Int)=95))||aP (c.toNat:Int)||decide ((c.toNat:Int)=46)||decide ((c.toNat:Int)=47)||decide ((c.toNat:Int)=58)||decide ((c.toNat:Int)=45)):=by
    have n1:ou c=(iY (c.toNat:Int)&&decide ((c.toNat:Int)<128)&&!decide ((c.toNat:Int)=95)):=by unfold ou iY;rw[Bool.eq_iff_iff];simp only[Bool.and_eq_true,Bool.or_eq_true,Bool.not_eq_true',decide_eq_true_eq,decide_eq_false_iff_not,beq_iff_eq];omega
    unfold dQ;rw[n1,PN,e46,e47,e58,e45]
   clear e46 e47 e58 e45;by_cases hl:iY (c.toNat:Int)=true
   .have hd:aP (c.toNat:Int)=false:=by
     unfold iY at hl;unfold aP;rw[Bool.eq_false_iff];intro h;simp only[Bool.and_eq_true,Bool.or_eq_true,decide_eq_true_eq,beq_iff_eq]at h hl;omega
    have hr:(45:Int)≠(c.toNat:Int)/\(46:Int)≠(c.toNat:Int)/\(47:Int)≠(c.toNat:Int)/\(58:Int)≠(c.toNat:Int):=by unfold iY at hl;simp only[Bool.and_eq_true,Bool.or_eq_true,decide_eq_true_eq,beq_iff_eq]at hl;omega
    have c46:((c.toNat:Int)==46)=false:=beq_eq_false_iff_ne.2 (fun e=>hr.2.1 e.symm);have c47:((c.toNat:Int)==47)=false:=beq_eq_false_iff_ne.2 (fun e=>hr.2.2.1 e.symm);have c58:((c.toNat:Int)==58)=false:=beq_eq_false_iff_ne.2 (fun e=>hr.2.2.2 e.symm);have c45:((c.toNat:Int)==45)=false:=beq_eq_false_iff_ne.2 (fun e=>hr.1 e.symm);by_cases h128:(c.toNat:Int)<128
    .by_cases h95:(c.toNat:Int)=95
     .have b95:((c.toNat:Int)==95)=true:=beq_iff_eq.2 h95;have d95:((c.toNat:Int) != 95)=false:=by rw[bne,b95];rfl
      have HF:Hid (dQ c=false):=by show _=_;rw[hpl,h95];rfl
      have HV:Hid ((⟨#[117,114,108,40]⟩:ByteArray)++aB (kN (fun i=>dQ (bt s i)) s (j+1))=acc++ji c):=HE.o HF.o;clear hpl h95 hr;go_wp2_with fail;refine aN (dB _ _) ?_;go_wp2_with fail;refine aN (cO _ _) ?_;go_wp2_with fail;refine(iK c _).mono ?_;obtain⟨x,Hx⟩:∃x,Hid (ji c=x):=⟨_,hid rfl⟩;have hxs:x.size=4:=by rw[<-Hx.o];rfl
      rw[Hx.o]at HV⊢;rintro e w1 ⟨rfl,hb⟩;have HB1:Hid (Below w.heap.size w w1):=HB.o.trans (hb.mono HB.o.size);clear hb;go_wp2_with fail;go_roundg(gk-1);case measure=>omega
      case rel=>exact⟨j+1,oo,by congr 1,by rw[HV.o],HB1.o⟩
     .have b95:((c.toNat:Int)==95)=false:=beq_eq_false_iff_ne.2 h95;have d95:((c.toNat:Int) != 95)=true:=by rw[bne,b95];rfl
      have HF:Hid (dQ c=true):=by show _=_;rw[hpl,hl,decide_eq_true h128,decide_eq_false h95];rfl
      have HV:Hid ((⟨#[117,114,108,40]⟩:ByteArray)++aB (kN (fun i=>dQ (bt s i)) s (j+1))=acc++one s j):=HP.o HF.o;clear hpl h95 hr;go_wp2_with fail;refine aN (dB _ _) ?_;go_wp2_with fail;refine aN (cO _ _) ?_;go_wp2_with fail;go_roundg(gk-1);case measure=>omega
      case rel=>exact⟨j+1,oo,by congr 1,by rw[HV.o],HB.o⟩
    .have afr:(128:Int)<=(c.toNat:Int):=oo;have HF:Hid (dQ c=false):=by show _=_;rw[hpl,hl,hd,decide_eq_false h128,decide_eq_false (show ¬(c.toNat:Int)=45 from fun e=>hr.1 e.symm),decide_eq_false (show ¬(c.toNat:Int)=46 from fun e=>hr.2.1 e.symm),decide_eq_false (show ¬(c.toNat:Int)=47 from fun e=>hr.2.2.1 e.symm),decide_eq_false (show ¬(c.toNat:Int)=58 from fun e=>hr.2.2.2 e.symm)];rfl
     have HV:Hid ((⟨#[117,114,108,40]⟩:ByteArray)++aB (kN (fun i=>dQ (bt s i)) s (j+1))=acc++ji c):=HE.o HF.o;clear hpl hr;go_wp2_with fail;refine aN (dB _ _) ?_;go_wp2_with fail;refine aN (cO _ _) ?_;go_wp2_with fail;refine(iK c _).mono ?_;obtain⟨x,Hx⟩:∃x,Hid (ji c=x):=⟨_,hid rfl⟩;have hxs:x.size=4:=by rw[<-Hx.o];rfl
     rw[Hx.o]at HV⊢;rintro e w1 ⟨rfl,hb⟩;have HB1:Hid (Below w.heap.size w w1):=HB.o.trans (hb.mono HB.o.size);clear hb;go_wp2_with fail;go_roundg(gk-1);case measure=>omega
     case rel=>exact⟨j+1,oo,by congr 1,by rw[HV.o],HB1.o⟩
   .have hl':iY (c.toNat:Int)=false:=by simpa using hl
    clear hl;by_cases hd:aP (c.toNat:Int)=true
    .have HF:Hid (dQ c=true):=by show _=_;rw[hpl,hl',hd];rfl
     have HV:Hid ((⟨#[117,114,108,40]⟩:ByteArray)++aB (kN (fun i=>dQ (bt s i)) s (j+1))=acc++one s j):=HP.o HF.o;clear hpl;go_wp2_with fail;refine aN (dB _ _) ?_;go_wp2_with fail;refine aN (cO _ _) ?_;go_wp2_with fail;go_roundg(gk-1);case measure=>omega
     case rel=>exact⟨j+1,oo,by congr 1,by rw[HV.o],HB.o⟩
    have hd':aP (c.toNat:Int)=false:=by simpa using hd
    clear hd;by_cases a3:(c.toNat:Int)=46
    .have b3:((c.toNat:Int)==46)=true:=beq_iff_eq.2 a3;have HF:Hid (dQ c=true):=by show _=_;rw[hpl,a3];rfl
     have HV:Hid ((⟨#[117,114,108,40]⟩:ByteArray)++aB (kN (fun i=>dQ (bt s i)) s (j+1))=acc++one s j):=HP.o HF.o;clear hpl a3;go_wp2_with fail;refine aN (dB _ _) ?_;go_wp2_with fail;refine aN (cO _ _) ?_;go_wp2_with fail;go_roundg(gk-1);case measure=>omega
     case rel=>exact⟨j+1,oo,by congr 1,by rw[HV.o],HB.o⟩
    have b3:((c.toNat:Int)==46)=false:=beq_eq_false_iff_ne.2 a3;by_cases a4:(c.toNat:Int)=47
    .have b4:((c.toNat:Int)==47)=true:=beq_iff_eq.2 a4;have HF:Hid (dQ c=true):=by show _=_;rw[hpl,a4];rfl
     have HV:Hid ((⟨#[117,114,108,40]⟩:ByteArray)++aB (kN (fun i=>dQ (bt s i)) s (j+1))=acc++one s j):=HP.o HF.o;clear hpl a4;go_wp2_with fail;refine aN (dB _ _) ?_;go_wp2_with fail;refine aN (cO _ _) ?_;go_wp2_with fail;go_roundg(gk-1);case measure=>omega
     case rel=>exact⟨j+1,oo,by congr 1,by rw[HV.o],HB.o⟩
    have b4:((c.toNat:Int)==47)=false:=beq_eq_false_iff_ne.2 a4;by_cases a5:(c.toNat:Int)=58
    .have b5:((c.toNat:Int)==58)=true:=beq_iff_eq.2 a5;have HF:Hid (dQ c=true):=by show _=_;rw[hpl,a5];rfl
     have HV:Hid ((⟨#[117,114,108,40]⟩:ByteArray)++aB (kN (fun i=>dQ (bt s i)) s (j+1))=acc++one s j):=HP.o HF.o;clear hpl a5;go_wp2_with fail;refine aN (dB _ _) ?_;go_wp2_with fail;refine aN (cO _ _) ?_;go_wp2_with fail;go_roundg(gk-1);case measure=>omega
     case rel=>exact⟨j+1,oo,by congr 1,by rw[HV.o],HB.o⟩
    have b5:((c.toNat:Int)==58)=false:=beq_eq_false_iff_ne.2 a5;by_cases a6:(c.toNat:Int)=45
    .have b6:((c.toNat:Int)==45)=true:=beq_iff_eq.2 a6;have HF:Hid (dQ c=true):=by show _=_;rw[hpl,a6];rfl
     have HV:Hid ((⟨#[117,114,108,40]⟩:ByteArray)++aB (kN (fun i=>dQ (bt s i)) s (j+1))=acc++one s j):=HP.o HF.o;clear hpl a6;go_wp2_with fail;refine aN (dB _ _) ?_;go_wp2_with fail;refine aN (cO _ _) ?_;go_wp2_with fail;go_roundg(gk-1);case measure=>omega
     case rel=>exact⟨j+1,oo,by congr 1,by rw[HV.o],HB.o⟩
    have b6:((c.toNat:Int)==45)=false:=beq_eq_false_iff_ne.2 a6;have HF:Hid (dQ c=false):=by show _=_;rw[hpl,hl',hd',decide_eq_false a3,decide_eq_false a4,decide_eq_false a5,decide_eq_false a6];rfl
    have HV:Hid ((⟨#[117,114,108,40]⟩:ByteArray)++aB (kN (fun i=>dQ (bt s i)) s (j+1))=acc++ji c):=HE.o HF.o;clear hpl a3 a4 a5 a6;go_wp2_with fail;refine aN (dB _ _) ?_;go_wp2_with fail;refine aN (cO _ _) ?_;go_wp2_with fail;refine(iK c _).mono ?_;obtain⟨x,Hx⟩:∃x,Hid (ji c=x):=⟨_,hid rfl⟩;have hxs:x.size=4:=by rw[<-Hx.o];rfl
    rw[Hx.o]at HV⊢;rintro e w1 ⟨rfl,hb⟩;have HB1:Hid (Below w.heap.size w w1):=HB.o.trans (hb.mono HB.o.size);clear hb;go_wp2_with fail;go_roundg(gk-1);case measure=>omega
    case rel=>exact⟨j+1,oo,by congr 1,by rw[HV.o],HB1.o⟩
  .have h1:(s.size:Int)<=(j:Int):=oo;have hjs:j=s.size:=oo;obtain⟨acc,vF⟩:∃acc,Hid ((⟨#[117,114,108,40]⟩:ByteArray)++aB (kN (fun i=>dQ (bt s i)) s j)=acc):=⟨_,hid rfl⟩;have HV:Hid (acc++(⟨#[41]⟩:ByteArray)=tZ s):=by rw[<-vF.o,hjs];exact HA.o
   rw[vF.o]at WC⊢;clear hjs;go_wp2_with fail;go_ret;exact⟨iW HV.o,HB.o⟩
theorem MS(s:ByteArray)(h:1<=s.size)(w:World):(Instr.slice 9 (.string s) (some (.int .i64 1)) none none).run prog w=.ok (.string (s.extract 1 s.size)) w:=by rw[run_slice_string_l (P:=prog) w 9 s Tryz.underlying9 .i64 _ oo oo];rfl
theorem wE(f g:Nat->UInt8->Bool):∀(l:List UInt8) (i:Nat),(∀j c,i<=j->f j c=g j c)->qR f i l=qR g i l
 |[],_,_=>rfl
 |c::r,i,h=>by unfold qR;rw[h i c nl,wE f g r (i+1) fun j c hj=>h j c oo]
theorem wF(ok:Nat->UInt8->Bool)(i:Nat)(c:UInt8)(r:List UInt8):qR ok i (c::r)=(if ok i c=true then b1 c else ji c)++qR ok (i+1) r:=by conv=>lhs;unfold qR
theorem TY{u w:ByteArray}(hs:u.size=w.size)(h1:(pk u 0==45)=(pk w 0==45))(i:Nat)(c:UInt8):bn u i c=bn w i c:=by unfold bn;rw[h1,hs]
def Fp(u:ByteArray):ByteArray:=(bC (⟨#[97]⟩++u.extract 1 u.size)).extract 1 (bC (⟨#[97]⟩++u.extract 1 u.size)).size
theorem I7{u:ByteArray}(h:0<u.size):u.data.toList=bt u 0::(u.extract 1 u.size).data.toList:=by
 rw[xG h];have hl:0<u.data.toList.length:=by rw[jH];exact h
 rw[ByteArray.data_extract,Array.toList_extract];have e:u.data.toList=u.data.toList[0]::u.data.toList.drop 1:=by have:=List.drop_eq_getElem_cons hl;simpa using this
 conv=>lhs;rw[e]
 have h2:u.data.toList[0]=u[0]:=by simp;rfl
 rw[h2];congr 1
 rw[List.extract_eq_take_drop,List.take_of_length_le];simp
theorem ZC(a b:ByteArray):(a++b).extract a.size (a++b).size=b:=by
 apply ByteArray.ext
 rw[ByteArray.data_extract,ByteArray.data_append,ByteArray.size_append];apply Array.toList_inj.1
 rw[Array.toList_extract,Array.toList_append,List.extract_eq_take_drop];have h1:a.data.toList.length=a.size:=jH a;have h2:b.data.toList.length=b.size:=jH b;rw[<-h1,List.drop_left,List.take_of_length_le oo]
theorem PO{u:ByteArray}(h:0<u.size)(h45:(pk u 0==45)=false):bC (⟨#[97]⟩++u.extract 1 u.size)=b1 97++qR (bn u) 1 (u.extract 1 u.size).data.toList:=by
 have hsz:(⟨#[97]⟩++u.extract 1 u.size:ByteArray).size=u.size:=by rw[ByteArray.size_append,ByteArray.size_extract];show 1+_=_;omega
 have hl:(⟨#[97]⟩++u.extract 1 u.size:ByteArray).data.toList=97::(u.extract 1 u.size).data.toList:=by rw[ByteArray.data_append,Array.toList_append];rfl
 have hp:pk (⟨#[97]⟩++u.extract 1 u.size) 0=97:=by
  rw[qg oo,xG oo];have:(⟨#[97]⟩++u.extract 1 u.size:ByteArray)[0]'oo=97:=by
   have e:(⟨#[97]⟩++u.extract 1 u.size:ByteArray)[0]'oo=(⟨#[97]⟩++u.extract 1 u.size:ByteArray).data.toList[0]'(by rw[jH];omega):=by simp;rfl
   rw[e];simp only[hl];rfl
  rw[this];rfl
 have hpl:bn (⟨#[97]⟩++u.extract 1 u.size) 0 97=true:=by unfold bn;rfl
 unfold bC;rw[hl,wF,if_pos hpl,wE _ (bn u) _ (0+1) fun j c _=>TY hsz (by rw[hp,h45];rfl) j c]
theorem ZE{u:ByteArray}(h:0<u.size)(he:bt u 0=101\/bt u 0=69):oJ u=ji (bt u 0)++Fp u/\1<=(bC (⟨#[97]⟩++u.extract 1 u.size)).size:=by
 have h45:(pk u 0==45)=false:=by rw[qg h];rcases he with e|e<;>(rw[e];rfl)
 have hn:=PO h h45;refine⟨?_,by rw[hn,ByteArray.size_append];show 1<=1+_;omega⟩;unfold Fp;rw[hn];have e1:(b1 97:ByteArray).size=1:=rfl;have e2:=ZC (b1 97) (qR (bn u) 1 (u.extract 1 u.size).data.toList);rw[e1]at e2;rw[e2];unfold oJ;have hf:(bn u 0 (bt u 0)&&!(0==0&&(bt u 0==101||bt u 0==69)))=false:=by rcases he with e|e<;>(rw[e];simp)
 rw[I7 h,wF,if_neg (by rw[hf];simp),wE _ (bn u) _ (0+1) fun j c hj=>by
  have:(j==0)=false:=by simp;omega
  rw[this];simp]
theorem ZF{u:ByteArray}(h:0<u.size)(h1:¬bt u 0=101)(h2:¬bt u 0=69):oJ u=bC u:=by
 unfold oJ bC;have hf:(bn u 0 (bt u 0)&&!(0==0&&(bt u 0==101||bt u 0==69)))=bn u 0 (bt u 0):=by simp[h1,h2]
 rw[I7 h,wF,wF,hf,wE _ (bn u) _ (0+1) fun j c hj=>by
  have:(j==0)=false:=by simp;omega
  rw[this];simp]
theorem abC(u:ByteArray)(w:World)(hu:u.size<=1000)(h0:0<u.size)(h1:1<=(bC (⟨#[97]⟩++u.extract 1 u.size)).size):Calls prog 182 #[.string u] w fun e w'=>e=.returned (.string (Fp u))/\Below w.heap.size w w':=by
 have s1:=MS u h0;have hsz:(⟨#[97]⟩++u.extract 1 u.size:ByteArray).size=u.size:=by rw[ByteArray.size_append,ByteArray.size_extract];show 1+_=_;omega
 have hx1:(u.extract 1 u.size).size<=1000:=by rw[ByteArray.size_extract];omega
 have HV:Hid (Fp u=(bC (⟨#[97]⟩++u.extract 1 u.size)).extract 1 (bC (⟨#[97]⟩++u.extract 1 u.size)).size):=rfl;obtain⟨x,Hx⟩:∃x,Hid (u.extract 1 u.size=x):=⟨_,hid rfl⟩;rw[Hx.o]at s1 hsz hx1 h1 HV;obtain⟨y,Hy⟩:∃y,Hid (bC (⟨#[97]⟩++x)=y):=⟨_,hid rfl⟩;rw[Hy.o]at h1 HV;have s2:=MS y h1;have HC:=jc (⟨#[97]⟩++x) w oo;rw[Hy.o]at HC;have Ib:Hid (Calls prog 61 #[.string (⟨#[97]⟩++x)] w fun e w'=>e=.returned (.string y)/\Below w.heap.size w w'):=HC;clear HC Hx hu;obtain⟨z,Hz⟩:∃z,Hid (y.extract 1 y.size=z):=⟨_,hid rfl⟩;rw[Hz.o]at s2 HV;go_in;go_wp2_with fail;refine Ib.o.mono ?_;rintro e w1 ⟨rfl,hb⟩;have B1:Hid (Below w.heap.size w w1):=hb;clear hb Ib s1 hsz;go_wp2_with fail;go_ret;exact⟨iW HV.o.symm,B1.o⟩
theorem WE(t:Tok):uf t=((t.kind==1)||((t.kind==15)&&((t.word.toList==[44])||(t.word.toList==[58])||(t.word.toList==[59])||(t.word.toList==[41])||(t.word.toList==[93])||(t.word.toList==[125])))):=by unfold uf Vw;simp only[aH];rfl
theorem WG(t:Tok)(kv:Value)(w:World):Calls prog 110 #[dM t kv] w fun e w'=>e=.returned (.bool (uf t))/\Below w.heap.size w w':=by
 have HS:Hid (uf t=((t.kind==1)||((t.kind==15)&&((t.word.toList==[44])||(t.word.toList==[58])||(t.word.toList==[59])||(t.word.toList==[41])||(t.word.toList==[93])||(t.word.toList==[125]))))):=WE t;unfold dM;go_in;cases h1:(t.kind==1)
 .cases h15:(t.kind==15)
  .go_wp2_with fail;go_ret;exact⟨aI (by rw[HS.o,h1,h15];rfl),(Below.refl _ _).alloc nl _⟩
  .cases a1:(t.word.toList==[44])
   .cases a2:(t.word.toList==[58])
    .cases a3:(t.word.toList==[59])
     .cases a4:(t.word.toList==[41])
      .cases a5:(t.word.toList==[93]);all_goals
        go_wp2_with fail;go_ret;exact⟨aI (by rw[HS.o,h1,h15,a1,a2,a3,a4,a5];rfl),(Below.refl _ _).alloc nl _⟩
      .go_wp2_with fail;go_ret;exact⟨aI (by rw[HS.o,h1,h15,a1,a2,a3,a4];rfl),(Below.refl _ _).alloc nl _⟩
     .go_wp2_with fail;go_ret;exact⟨aI (by rw[HS.o,h1,h15,a1,a2,a3];rfl),(Below.refl _ _).alloc nl _⟩
    .go_wp2_with fail;go_ret;exact⟨aI (by rw[HS.o,h1,h15,a1,a2];rfl),(Below.refl _ _).alloc nl _⟩
   .go_wp2_with fail;go_ret;exact⟨aI (by rw[HS.o,h1,h15,a1];rfl),(Below.refl _ _).alloc nl _⟩
 .go_wp2_with fail;go_ret;exact⟨aI (by rw[HS.o,h1];rfl),(Below.refl _ _).alloc nl _⟩
end Go.Proofs.YtlliliddljkbfaaGreatDoor
