import Derived.Test.YtlliliddljkbfaaGreatDoorC37
namespace Go.Proofs.YtlliliddljkbfaaGreatDoor
set_option maxHeartbeats 64000000
set_option maxRecDepth 100000
open Go.Proofs.Tryz (prog)
open Go.RowKit Sp
theorem Qh(f:Nat)(hR:FK f)(B:Nat)(l:List Nd)(i:Nat)(v:Value)(w:World)(h:Sl (fun b=>b<B) w v l)(hB:B<=w.heap.size)(hi:i<=l.length)(hd:depth l<=f):
  Calls prog 131 #[v,.int .i64 (i:Int)] w fun e w'=>Au f l i w w' e/\Below w.heap.size w w':=by
 have hl:=h.len;have HS:Hid (Sl (fun b=>b<B) w v l):=h;obtain⟨a,cap,rfl⟩:=h.form;have HD:Hid (depth l<=f):=hd;have HR:Hid (FK f):=hR;clear h hd hR;obtain⟨iT,hiT⟩:=Xo;have HI:Hid (prog.info? 194=some iT/\iT.zero=some (.agg #[.int .u8 0,.string ⟨#[]⟩,.string ⟨#[]⟩,.string ⟨#[]⟩,.slice none 0 0,.int .i64 0])/\iT.size=6/\iT.bytes=88):=hiT;clear hiT;go_in;go_upto_if 19 with fail;go_cut [1,7] (fun s1 s7 wx=>∃(u:Value) (k:Nat) (acc:List Simple),s1=.int .i64 (k:Int)/\u=s7/\i<=k/\k<=l.length/\acc.length<=k/\Aside (abW f l i w u k acc wx));case first=>
  by_cases hlt:i<l.length
  .have h1:(i:Int)<(l.length:Int):=oo;obtain⟨g,o,rfl,hL,hcap⟩:=HS.o.here (by rintro rfl;simp at hlt);obtain⟨kv,hN⟩:=hL.node (i:=i) hlt;obtain⟨n,hn⟩:∃n,n=l[i]:=⟨_,rfl⟩;have Hdr:Hid (l.drop i=n::l.drop (i+1)):=by show _=_;rw[hn];exact List.drop_eq_getElem_cons hlt
   rw[<-hn]at hN;have HN:Hid (lZ (fun b=>b<B) w n g (o+i*4) kv):=hN;have c0:=hN.c0;have c1:=hN.c1;have c2:=hN.c2;have c3:=hN.c3;have hnw:=hN.ok.word;clear hN hL hn;go_wp2_with fail;refine pmb (eU n.t kv _ _) fun w1 hb1=>?_;have N1:Hid (lZ (fun b=>b<B) w1 n g (o+i*4) kv):=HN.o.below (hb1.mono hB);have B1:Hid (Below w.heap.size w w1):=hb1;have hs1:=hb1.size;clear hb1 c0 c1 c2 c3 HN;have c0:=N1.o.c0;have c1:=N1.o.c1;cases hk:(n.t.kind==14)
   .have nk:¬n.t.kind=14:=by simpa using hk
    cases hs:ay n.t (b1 42)
    .have ts:ay n.t { data:=#[42] } = false:=hs;have HT:Hid (aJ (aY f) (l.drop i)=bD (aY f) [] (l.drop i)):=by
      show _=_;unfold aJ;rw[Hdr.o];unfold oW;simp only;rw[if_neg nk,if_neg (by unfold dY;rw[hs];simp)]
     clear nk;go_wp2_with fail;go_meet
     exact⟨_,i,[],rfl,rfl,oo,oo,by simp,MG.nil _ _ _ _ _,B1.o,HT.o⟩
    .have ts:ay n.t { data:=#[42] } = true:=hs;have HT:Hid (aJ (aY f) (l.drop i)=bD (aY f) ([]++[Simple.of 116 aA]) (l.drop (i+1))):=by
      show _=_;unfold aJ;rw[Hdr.o];unfold oW;simp only;rw[if_neg nk,if_pos (by unfold dY;exact hs)];rfl
     clear nk;have M1:Hid (MG (bP f) 6 194 w.heap.size w1 (.slice none 0 0) []):=MG.nil _ _ _ _ _;obtain⟨cs,hown,mG⟩:=(M1.o.alloc (bP.fair f) (.cells #[.int .u8 116,.string ⟨#[]⟩,.string ⟨#[]⟩,.string ⟨#[]⟩,.slice none 0 0,.int .i64 0] 194));have HO:Hid ((w1.alloc (.cells #[.int .u8 116,.string ⟨#[]⟩,.string ⟨#[]⟩,.string ⟨#[]⟩,.slice none 0 0,.int .i64 0] 194)).ownsRow w.heap.size 194 6 (.slice none 0 0) ([]).length cs):=hown;have HC:Hid (jv (bP f) (oO w.heap.size (w1.alloc (.cells #[.int .u8 116,.string ⟨#[]⟩,.string ⟨#[]⟩,.string ⟨#[]⟩,.slice none 0 0,.int .i64 0] 194)) (.slice none 0 0)) (w1.alloc (.cells #[.int .u8 116,.string ⟨#[]⟩,.string ⟨#[]⟩,.string ⟨#[]⟩,.slice none 0 0,.int .i64 0] 194)) ([]) cs):=mG;have hszA:=B1.o.size;clear hown mG
     go_wp2_with(at_builtin;go_must(refine wpList_append_own_at _ rfl _ _ 189 rfl w.heap.size 194 iT (.agg #[.int .u8 0,.string ⟨#[]⟩,.string ⟨#[]⟩,.string ⟨#[]⟩,.slice none 0 0,.int .i64 0]) 6 88 Tryz.underlying189 HI.o.1 HI.o.2.1 HI.o.2.2.1 HI.o.2.2.2 rfl oo (.slice none 0 0) ([]).length cs rfl HO.o ⟨w1.heap.size,0,none⟩ 1 1 [.int .u8 116,.string ⟨#[]⟩,.string ⟨#[]⟩,.string ⟨#[]⟩,.slice none 0 0,.int .i64 0] rfl rfl (Jg _ _ _ _ _ _ _ _ _ (by first|rfl|simp)) (by simp[Value.oneCell']) (by unfold maxLen;first|omega|simp) (by first|omega|simp) (by simp;omega) ?_));intro v4 w4 hown4 bG _ fK;have M4:Hid (MG (bP f) 6 194 w.heap.size w4 v4 (([])++[Simple.of 116 aA])):=MG.wG (x:=Simple.of 116 aA) HC.o (bP.plain f _ _ 116 aA aA aA 0) hown4 bG (by simpa using fK)
     have B4:Hid (Below w.heap.size w w4):=(B1.o.alloc oo _).grown bG (by simp;omega) (fun rr hr=>(HO.o.lt rr hr).1);clear hown4 bG fK HO HC hszA;go_wp2_with fail;go_meet
     exact⟨v4,i+1,[]++[Simple.of 116 aA],by congr 1,rfl,oo,oo,by simp,M4.o,B4.o,HT.o⟩
   .have ek:n.t.kind=14:=by simpa using hk
    have HT:Hid (aJ (aY f) (l.drop i)=bD (aY f) ([]++[Simple.of 116 (small n.t.word)]) (l.drop (i+1))):=by show _=_;unfold aJ;rw[Hdr.o];unfold oW;simp only;rw[if_pos ek];rfl
    obtain⟨nm,iZ⟩:∃nm,Hid (small n.t.word=nm):=⟨_,hid rfl⟩;rw[iZ.o]at HT;clear ek;go_wp2_with fail;refine(gW n.t.word _ oo).mono ?_;rw[iZ.o];rintro e w2 ⟨rfl,hb2⟩;have B2:Hid (Below w.heap.size w w2):=B1.o.trans (hb2.mono hs1);clear hb2;have M2:Hid (MG (bP f) 6 194 w.heap.size w2 (.slice none 0 0) []):=MG.nil _ _ _ _ _;obtain⟨cs,hown,mG⟩:=(M2.o.alloc (bP.fair f) (.cells #[.int .u8 116,.string nm,.string ⟨#[]⟩,.string ⟨#[]⟩,.slice none 0 0,.int .i64 0] 194));have HO:Hid ((w2.alloc (.cells #[.int .u8 116,.string nm,.string ⟨#[]⟩,.string ⟨#[]⟩,.slice none 0 0,.int .i64 0] 194)).ownsRow w.heap.size 194 6 (.slice none 0 0) ([]).length cs):=hown
    have HC:Hid (jv (bP f) (oO w.heap.size (w2.alloc (.cells #[.int .u8 116,.string nm,.string ⟨#[]⟩,.string ⟨#[]⟩,.slice none 0 0,.int .i64 0] 194)) (.slice none 0 0)) (w2.alloc (.cells #[.int .u8 116,.string nm,.string ⟨#[]⟩,.string ⟨#[]⟩,.slice none 0 0,.int .i64 0] 194)) ([]) cs):=mG;have hszA:=B2.o.size;clear hown mG
    go_wp2_with(at_builtin;go_must(refine wpList_append_own_at _ rfl _ _ 189 rfl w.heap.size 194 iT (.agg #[.int .u8 0,.string ⟨#[]⟩,.string ⟨#[]⟩,.string ⟨#[]⟩,.slice none 0 0,.int .i64 0]) 6 88 Tryz.underlying189 HI.o.1 HI.o.2.1 HI.o.2.2.1 HI.o.2.2.2 rfl oo (.slice none 0 0) ([]).length cs rfl HO.o ⟨w2.heap.size,0,none⟩ 1 1 [.int .u8 116,.string nm,.string ⟨#[]⟩,.string ⟨#[]⟩,.slice none 0 0,.int .i64 0] rfl rfl (Jg _ _ _ _ _ _ _ _ _ (by first|rfl|simp)) (by simp[Value.oneCell']) (by unfold maxLen;first|omega|simp) (by first|omega|simp) (by simp;omega) ?_));intro v4 w4 hown4 bG _ fK;have M4:Hid (MG (bP f) 6 194 w.heap.size w4 v4 (([])++[Simple.of 116 nm])):=MG.wG (x:=Simple.of 116 nm) HC.o (bP.plain f _ _ 116 nm aA aA 0) hown4 bG (by simpa using fK)
    have B4:Hid (Below w.heap.size w w4):=(B2.o.alloc oo _).grown bG (by simp;omega) (fun rr hr=>(HO.o.lt rr hr).1);clear hown4 bG fK HO HC hszA;go_wp2_with fail;go_meet
    exact⟨v4,i+1,[]++[Simple.of 116 nm],by congr 1,rfl,oo,oo,by simp,M4.o,B4.o,HT.o⟩
  .have h1:(l.length:Int)<=(i:Int):=oo;have HT:Hid (aJ (aY f) (l.drop i)=bD (aY f) [] (l.drop i)):=by
    show _=_;unfold aJ;rw[List.drop_of_length_le oo];rfl
   go_wp2_with fail;go_meet
   exact⟨_,i,[],rfl,rfl,oo,oo,by simp,MG.nil _ _ _ _ _,Below.refl _ _,HT.o⟩
 case rest=>
 obtain⟨u0,k0,acc0,rfl,rfl,hk1,hk2,hk3,hA0⟩:=hcut;have HC0:Hid (abW f l i w u0 k0 acc0 wc):=hA0.o;clear hA0;go_wp2_with fail;go_loopg[1,7] l.length (fun gg v1 v7 wr=>∃(u:Value) (k:Nat) (acc:List Simple),v1=.int .i64 (k:Int)/\u=v7/\l.length<=k+gg/\i<=k/\k<=l.length/\acc.length<=k/\Aside (abW f l i w u k acc wr));case atStart=>exact⟨u0,k0,acc0,rfl,rfl,oo,hk1,hk2,hk3,HC0.o⟩
 case round=>
  obtain⟨u,k,acc,rfl,rfl,hkg,hik,hkl,hak,hA⟩:=hrel;have M0:Hid (MG (bP f) 6 194 w.heap.size wr u acc):=hA.o.m;have B0:Hid (Below w.heap.size w wr):=hA.o.b;have HE:Hid (aJ (aY f) (l.drop i)=bD (aY f) acc (l.drop k)):=hA.o.e;clear hA HC0 hk1 hk2 hk3;obtain⟨ua,uc,rfl⟩:=M0.o.form;by_cases hlt:k<l.length
  .have h1:(k:Int)<(l.length:Int):=oo;have hs0:=B0.o.size;have S0:=HS.o.below B0.o hB;obtain⟨g,o,rfl,hL,hcap⟩:=S0.here (by rintro rfl;simp at hlt);obtain⟨kv,hN⟩:=hL.node (i:=k) hlt;obtain⟨n,hn⟩:∃n,n=l[k]:=⟨_,rfl⟩;have Hdr:Hid (l.drop k=n::l.drop (k+1)):=by show _=_;rw[hn];exact List.drop_eq_getElem_cons hlt
   have Hdn:Hid (jS n<=f):=by have h2:=mP l n (by rw[hn];exact List.getElem_mem _);have h3:=HD.o;show _<=_;omega
   rw[<-hn]at hN;have N0:Hid (lZ (fun b=>b<B) wr n g (o+k*4) kv):=hN;have hgB:g<B:=hN.s;clear hN hL hn S0;obtain⟨c0,c1,c2,c3⟩:_/\_/\_/\_:=⟨N0.o.c0,N0.o.c1,N0.o.c2,N0.o.c3⟩;go_wp2_with fail;refine pmb (eU n.t kv _ _) fun w1 hb1=>?_;have N1:Hid (lZ (fun b=>b<B) w1 n g (o+k*4) kv):=N0.o.below (hb1.mono oo);have B1:Hid (Below wr.heap.size wr w1):=hb1;have hs1:=hb1.size;clear hb1 c0 c1 c2 c3 N0;obtain⟨c0,c1,c2,c3⟩:_/\_/\_/\_:=⟨N1.o.c0,N1.o.c1,N1.o.c2,N1.o.c3⟩;go_wp2_with fail;refine pmb (eU n.t kv _ _) fun w2 hb1=>?_;have N2:Hid (lZ (fun b=>b<B) w2 n g (o+k*4) kv):=N1.o.below (hb1.mono oo);have B2:Hid (Below wr.heap.size wr w2):=B1.o.trans (hb1.mono oo);have hs2:=hb1.size;clear hb1 c0 c1 c2 c3 N1 B1;obtain⟨c0,c1,c2,c3⟩:_/\_/\_/\_:=⟨N2.o.c0,N2.o.c1,N2.o.c2,N2.o.c3⟩;go_wp2_with fail
   refine pmb (eU n.t kv _ _) fun w3 hb1=>?_;have N3:Hid (lZ (fun b=>b<B) w3 n g (o+k*4) kv):=N2.o.below (hb1.mono oo);have B3':Below wr.heap.size wr w3:=B2.o.trans (hb1.mono oo);have hs3:=hb1.size;have B3:Hid (Below w.heap.size w w3):=B0.o.trans (B3'.mono hs0);have M3:Hid (MG (bP f) 6 194 w.heap.size w3 (.slice ua acc.length uc) acc):=M0.o.below (bP.fair f) B3';have S3:Hid (Sl (fun b=>b<B) w3 (.slice (some ⟨g,o,none⟩) l.length cap) l):=HS.o.below B3.o hB;have hsB:w.heap.size<=w3.heap.size:=B3.o.size;clear hb1 c0 c1 c2 c3 N2 B2 B3' M0 B0 hs0 hs1 hs2 hs3;obtain⟨c0,c1,c2,c3⟩:_/\_/\_/\_:=⟨N3.o.c0,N3.o.c1,N3.o.c2,N3.o.c3⟩;cases hk4:(n.t.kind==4)
   .have nk4:¬n.t.kind=4:=by simpa using hk4
    cases s46:ay n.t (b1 46)
    .have t46:ay n.t { data:=#[46] } = false:=s46;cases s91:ay n.t (b1 91)
     .have t91:ay n.t { data:=#[91] } = false:=s91;cases s58:ay n.t (b1 58)
      .have t58:ay n.t { data:=#[58] } = false:=s58;have HV:Hid (aJ (aY f) (l.drop i)=some (acc,l.drop k)):=by
        show _=_;rw[HE.o,Hdr.o];exact Nv nk4 s46 s91 s58
       clear nk4;go_wp2_with fail;go_ret3
       refine⟨?_,B3.o⟩;unfold Au;rw[HV.o];exact⟨_,k,rfl,M3.o.sl (bP.fair f) (bP.sized f) oo,oo,oo,rfl⟩
      .have t58:ay n.t { data:=#[58] } = true:=s58;have HV:Hid (aJ (aY f) (l.drop i)=abV (aY f) acc (l.drop (k+1))):=by
        show _=_;rw[HE.o,Hdr.o];exact Ku s58
       clear nk4 HE;by_cases hl2:k+1<l.length
       .have h2:(k:Int)+1<(l.length:Int):=oo;obtain⟨g',o',e',hL',_⟩:=S3.o.here (by rintro rfl;simp at hlt);injection e' with e'
        injection e' with e1 e2
        subst e1 e2;obtain⟨kvm,hM⟩:=hL'.node (i:=k+1) hl2;obtain⟨m,hm⟩:∃m,m=l[k+1]:=⟨_,rfl⟩;have GN:Hid (l.drop (k+1)=m::l.drop (k+2)):=by show _=_;rw[hm];exact List.drop_eq_getElem_cons hl2
        have Hdm:Hid (jS m<=f):=by have h2:=mP l m (by rw[hm];exact List.getElem_mem _);have h3:=HD.o;show _<=_;omega
        rw[<-hm]at hM;have ea:o+(k+1)*4=o+(k+1)*4:=rfl;obtain⟨d0,d1,d2,d3⟩:_/\_/\_/\_:=⟨hM.c0,hM.c1,hM.c2,hM.c3⟩;have HMk:Hid (Sl (fun b=>b<B) w3 kvm m.kids):=hM.k;have HMo:Hid (cZ m.t):=hM.ok;clear hL' hM hm ea;go_wp2_with fail;refine(Xn f HR.o B m kvm _ HMo.o HMk.o oo Hdm.o).mono ?_;rintro e wp ⟨hp,hb4⟩;have HP:Hid (qm f m w3 wp e):=hp;have Mp:Hid (MG (bP f) 6 194 w.heap.size wp (.slice ua acc.length uc) acc):=M3.o.below (bP.fair f) hb4;have Bp:Hid (Below w.heap.size w wp):=B3.o.trans (hb4.mono hsB);have hsp:=Bp.o.size;have hp:=HP.o;unfold qm at hp;clear hb4 c0 c1 c2 c3 d0 d1 d2 d3 N3 S3 HP HMk HMo Hdm;cases hps:aK (aY f) m with
        |none=>
         rw[hps]at hp;simp only at hp;obtain⟨Oy,Oz,ph,pv,pa,pm,pc,pp,rfl⟩:=hp;have rF:Hid (aJ (aY f) (l.drop i)=none):=by show _=_;rw[HV.o,GN.o];show Kt _ _ _ _=_;rw[hps];rfl
         unfold dZ;go_wp2_with fail;go_ret3
         refine⟨?_,Bp.o.alloc hsp _⟩;unfold Au;rw[rF.o];exact⟨k,rfl⟩
        |some s=>
         rw[hps]at hp;simp only at hp;obtain⟨Oy,Oz,ph,pv,lv,pp,rfl,hcs⟩:=hp;obtain⟨pa,pm,pc,rfl⟩:=hcs.lv;have rF:Hid (aJ (aY f) (l.drop i)=bD (aY f) (acc++[s]) (l.drop (k+2))):=by show _=_;rw[HV.o,GN.o];show Kt _ _ _ _=_;rw[hps];rfl
         have Mq:Hid (MG (bP f) 6 194 w.heap.size (wp.alloc (.cells #[.int .u8 (Oy:Int),.string Oz,.string ph,.string pv,.slice pa pm pc,.int .i64 (pp:Int)] 194)) (.slice ua acc.length uc) acc):=Mp.o.alloc (bP.fair f) _;have Bq:Hid (Below w.heap.size w (wp.alloc (.cells #[.int .u8 (Oy:Int),.string Oz,.string ph,.string pv,.slice pa pm pc,.int .i64 (pp:Int)] 194))):=Bp.o.alloc hsp _
         have Xq:Hid (bP f (oO w.heap.size ((wp.alloc (.cells #[.int .u8 (Oy:Int),.string Oz,.string ph,.string pv,.slice pa pm pc,.int .i64 (pp:Int)] 194)).alloc (.cells #[.int .u8 (Oy:Int),.string Oz,.string ph,.string pv,.slice pa pm pc,.int .i64 (pp:Int)] 194)) (.slice ua acc.length uc)) ((wp.alloc (.cells #[.int .u8 (Oy:Int),.string Oz,.string ph,.string pv,.slice pa pm pc,.int .i64 (pp:Int)] 194)).alloc (.cells #[.int .u8 (Oy:Int),.string Oz,.string ph,.string pv,.slice pa pm pc,.int .i64 (pp:Int)] 194)) s [.int .u8 (Oy:Int),.string Oz,.string ph,.string pv,.slice pa pm pc,.int .i64 (pp:Int)]):=M3.o.apart (bP.fair f) hcs hsB (by simp;omega) (fun q hq=>by rw[Below.heap_alloc _ _ _ (by simp;omega),Below.heap_alloc _ _ _ hq])
         clear hcs;unfold dZ;obtain⟨cs,hown,mG⟩:=(Mq.o.alloc (bP.fair f) (.cells #[.int .u8 (Oy:Int),.string Oz,.string ph,.string pv,.slice pa pm pc,.int .i64 (pp:Int)] 194));have HO:Hid (((wp.alloc (.cells #[.int .u8 (Oy:Int),.string Oz,.string ph,.string pv,.slice pa pm pc,.int .i64 (pp:Int)] 194)).alloc (.cells #[.int .u8 (Oy:Int),.string Oz,.string ph,.string pv,.slice pa pm pc,.int .i64 (pp:Int)] 194)).ownsRow w.heap.size 194 6 (.slice ua acc.length uc) (acc).length cs):=hown
         have HC:Hid (jv (bP f) (oO w.heap.size ((wp.alloc (.cells #[.int .u8 (Oy:Int),.string Oz,.string ph,.string pv,.slice pa pm pc,.int .i64 (pp:Int)] 194)).alloc (.cells #[.int .u8 (Oy:Int),.string Oz,.string ph,.string pv,.slice pa pm pc,.int .i64 (pp:Int)] 194)) (.slice ua acc.length uc)) ((wp.alloc (.cells #[.int .u8 (Oy:Int),.string Oz,.string ph,.string pv,.slice pa pm pc,.int .i64 (pp:Int)] 194)).alloc (.cells #[.int .u8 (Oy:Int),.string Oz,.string ph,.string pv,.slice pa pm pc,.int .i64 (pp:Int)] 194)) (acc) cs):=mG;have hszA:=Bq.o.size;clear hown mG
         go_wp2_with(at_builtin;go_must(refine wpList_append_own_at _ rfl _ _ 189 rfl w.heap.size 194 iT (.agg #[.int .u8 0,.string ⟨#[]⟩,.string ⟨#[]⟩,.string ⟨#[]⟩,.slice none 0 0,.int .i64 0]) 6 88 Tryz.underlying189 HI.o.1 HI.o.2.1 HI.o.2.2.1 HI.o.2.2.2 rfl oo (.slice ua acc.length uc) (acc).length cs rfl HO.o ⟨wp.heap.size+1,0,none⟩ 1 1 [.int .u8 (Oy:Int),.string Oz,.string ph,.string pv,.slice pa pm pc,.int .i64 (pp:Int)] rfl rfl (Jg _ _ _ _ _ _ _ _ _ (by first|rfl|simp)) (by simp[Value.oneCell']) (by unfold maxLen;first|omega|simp) (by first|omega|simp) (by simp;omega) ?_));intro v4 w4 hown4 bG _ fK;have M4:Hid (MG (bP f) 6 194 w.heap.size w4 v4 ((acc)++[s])):=MG.wG (x:=s) HC.o (Xq.o) hown4 bG (by simpa using fK);have B4:Hid (Below w.heap.size w w4):=(Bq.o.alloc oo _).grown bG (by simp;omega) (fun rr hr=>(HO.o.lt rr hr).1)
         clear hown4 bG fK HO HC hszA;go_wp2_with fail;go_roundg(gk-2);case measure=>omega
         case rel=>exact⟨v4,k+2,acc++[s],by congr 1,rfl,oo,oo,oo,by simp;omega,M4.o,B4.o,rF.o⟩
       .have h2:(l.length:Int)<=(k:Int)+1:=oo;have rF:Hid (aJ (aY f) (l.drop i)=none):=by
         show _=_;rw[HV.o,List.drop_of_length_le oo];rfl
        go_wp2_with fail;go_ret3
        refine⟨?_,B3.o⟩;unfold Au;rw[rF.o];exact⟨k,rfl⟩
     .have t91:ay n.t { data:=#[91] } = true:=s91;have HV:Hid (aJ (aY f) (l.drop i)=Kt (aY f) acc (dh (bare n.kids)) (l.drop (k+1))):=by
       show _=_;rw[HE.o,Hdr.o];exact Nu s91
      have abX:ay n.t (b1 58)=false:=by have:=(vK (n:=n) (w:=b1 91) s91).2;simp[ay,this,b1]
      have t58:ay n.t { data:=#[58] } = false:=abX;clear nk4 HE;go_wp2_with fail;refine(mQ B n.kids kv _ N3.o.k).mono ?_;rintro e wq ⟨vb,rfl,hSb,hwq⟩;rw[hwq];clear hwq wq;go_wp2_with fail;refine(abA B (bare n.kids) vb _ hSb oo).mono ?_;rintro e wp ⟨hp,hb4⟩;have Mp:Hid (MG (bP f) 6 194 w.heap.size wp (.slice ua acc.length uc) acc):=M3.o.below (bP.fair f) hb4;have Bp:Hid (Below w.heap.size w wp):=B3.o.trans (hb4.mono hsB);have hsp:=Bp.o.size;clear hb4 c0 c1 c2 c3 N3 S3 hSb;rcases hp with⟨hps,rfl⟩|⟨Qi,ah,Qj,hps,rfl⟩
      .have rF:Hid (aJ (aY f) (l.drop i)=none):=by
        show _=_;rw[HV.o,hps];rfl
       unfold dZ;go_wp2_with fail;go_ret3
       refine⟨?_,Bp.o.alloc hsp _⟩;unfold Au;rw[rF.o];exact⟨k,rfl⟩
      .have rF:Hid (aJ (aY f) (l.drop i)=bD (aY f) (acc++[.mk 91 Qi ah Qj [] 0]) (l.drop (k+1))):=by
        show _=_;rw[HV.o,hps];rfl
       have Mq:Hid (MG (bP f) 6 194 w.heap.size (wp.alloc (.cells #[.int .u8 91,.string Qi,.string ah,.string Qj,.slice none 0 0,.int .i64 0] 194)) (.slice ua acc.length uc) acc):=Mp.o.alloc (bP.fair f) _;have Bq:Hid (Below w.heap.size w (wp.alloc (.cells #[.int .u8 91,.string Qi,.string ah,.string Qj,.slice none 0 0,.int .i64 0] 194))):=Bp.o.alloc hsp _;unfold dZ;obtain⟨cs,hown,mG⟩:=(Mq.o.alloc (bP.fair f) (.cells #[.int .u8 91,.string Qi,.string ah,.string Qj,.slice none 0 0,.int .i64 0] 194));have HO:Hid (((wp.alloc (.cells #[.int .u8 91,.string Qi,.string ah,.string Qj,.slice none 0 0,.int .i64 0] 194)).alloc (.cells #[.int .u8 91,.string Qi,.string ah,.string Qj,.slice none 0 0,.int .i64 0] 194)).ownsRow w.heap.size 194 6 (.slice ua acc.length uc) (acc).length cs):=hown
       have HC:Hid (jv (bP f) (oO w.heap.size ((wp.alloc (.cells #[.int .u8 91,.string Qi,.string ah,.string Qj,.slice none 0 0,.int .i64 0] 194)).alloc (.cells #[.int .u8 91,.string Qi,.string ah,.string Qj,.slice none 0 0,.int .i64 0] 194)) (.slice ua acc.length uc)) ((wp.alloc (.cells #[.int .u8 91,.string Qi,.string ah,.string Qj,.slice none 0 0,.int .i64 0] 194)).alloc (.cells #[.int .u8 91,.string Qi,.string ah,.string Qj,.slice none 0 0,.int .i64 0] 194)) (acc) cs):=mG;have hszA:=Bq.o.size;clear hown mG
       go_wp2_with(at_builtin;go_must(refine wpList_append_own_at _ rfl _ _ 189 rfl w.heap.size 194 iT (.agg #[.int .u8 0,.string ⟨#[]⟩,.string ⟨#[]⟩,.string ⟨#[]⟩,.slice none 0 0,.int .i64 0]) 6 88 Tryz.underlying189 HI.o.1 HI.o.2.1 HI.o.2.2.1 HI.o.2.2.2 rfl oo (.slice ua acc.length uc) (acc).length cs rfl HO.o ⟨wp.heap.size+1,0,none⟩ 1 1 [.int .u8 91,.string Qi,.string ah,.string Qj,.slice none 0 0,.int .i64 0] rfl rfl (Jg _ _ _ _ _ _ _ _ _ (by first|rfl|simp)) (by simp[Value.oneCell']) (by unfold maxLen;first|omega|simp) (by first|omega|simp) (by simp;omega) ?_));intro v4 w4 hown4 bG _ fK;have M4:Hid (MG (bP f) 6 194 w.heap.size w4 v4 ((acc)++[.mk 91 Qi ah Qj [] 0])):=MG.wG (x:=.mk 91 Qi ah Qj [] 0) HC.o (bP.plain f _ _ 91 Qi ah Qj 0) hown4 bG (by simpa using fK)
       have B4:Hid (Below w.heap.size w w4):=(Bq.o.alloc oo _).grown bG (by simp;omega) (fun rr hr=>(HO.o.lt rr hr).1);clear hown4 bG fK HO HC hszA;go_wp2_with fail;go_roundg(gk-1);case measure=>omega
       case rel=>exact⟨v4,k+1,acc++[.mk 91 Qi ah Qj [] 0],by congr 1,rfl,oo,oo,oo,by simp;omega,M4.o,B4.o,rF.o⟩
    .have t46:ay n.t { data:=#[46] } = true:=s46;have HV:Hid (aJ (aY f) (l.drop i)=dotW (aY f) acc (l.drop (k+1))):=by
      show _=_;rw[HE.o,Hdr.o];exact Qg s46
     have hwd:=(vK (n:=n) (w:=b1 46) s46).2;have abX:ay n.t (b1 58)=false:=by simp[ay,hwd,b1]
     have t58:ay n.t { data:=#[58] } = false:=abX;have aeE:ay n.t (b1 91)=false:=by simp[ay,hwd,b1]
     have t91:ay n.t { data:=#[91] } = false:=aeE;clear nk4 HE hwd;by_cases hl2:k+1<l.length
     .have h2:(k:Int)+1<(l.length:Int):=oo;obtain⟨g',o',e',hL',_⟩:=S3.o.here (by rintro rfl;simp at hlt);injection e' with e'
      injection e' with e1 e2
      subst e1 e2;obtain⟨kvm,hM⟩:=hL'.node (i:=k+1) hl2;obtain⟨m,hm⟩:∃m,m=l[k+1]:=⟨_,rfl⟩;have GN:Hid (l.drop (k+1)=m::l.drop (k+2)):=by show _=_;rw[hm];exact List.drop_eq_getElem_cons hl2
      rw[<-hm]at hM;obtain⟨d0,d1⟩:_/\_:=⟨hM.c0,hM.c1⟩;clear hL' hM hm;cases hmk:(m.t.kind==14)
      .have nmk:(m.t.kind != 14)=true:=by simpa using hmk
       have rF:Hid (aJ (aY f) (l.drop i)=none):=by show _=_;rw[HV.o,GN.o];exact if_neg (by simpa using hmk)
       go_wp2_with fail;go_ret3
       refine⟨?_,B3.o⟩;unfold Au;rw[rF.o];exact⟨k,rfl⟩
      .have nmk:(m.t.kind != 14)=false:=by simpa using hmk
       have rF:Hid (aJ (aY f) (l.drop i)=bD (aY f) (acc++[Simple.of 46 m.t.word]) (l.drop (k+2))):=by show _=_;rw[HV.o,GN.o];exact if_pos (by simpa using hmk)
       obtain⟨cs,hown,mG⟩:=(M3.o.alloc (bP.fair f) (.cells #[.int .u8 46,.string m.t.word,.string ⟨#[]⟩,.string ⟨#[]⟩,.slice none 0 0,.int .i64 0] 194));have HO:Hid ((w3.alloc (.cells #[.int .u8 46,.string m.t.word,.string ⟨#[]⟩,.string ⟨#[]⟩,.slice none 0 0,.int .i64 0] 194)).ownsRow w.heap.size 194 6 (.slice ua acc.length uc) (acc).length cs):=hown;have HC:Hid (jv (bP f) (oO w.heap.size (w3.alloc (.cells #[.int .u8 46,.string m.t.word,.string ⟨#[]⟩,.string ⟨#[]⟩,.slice none 0 0,.int .i64 0] 194)) (.slice ua acc.length uc)) (w3.alloc (.cells #[.int .u8 46,.string m.t.word,.string ⟨#[]⟩,.string ⟨#[]⟩,.slice none 0 0,.int .i64 0] 194)) (acc) cs):=mG;have hszA:=B3.o.size;clear hown mG
       go_wp2_with(at_builtin;go_must(refine wpList_append_own_at _ rfl _ _ 189 rfl w.heap.size 194 iT (.agg #[.int .u8 0,.string ⟨#[]⟩,.string ⟨#[]⟩,.string ⟨#[]⟩,.slice none 0 0,.int .i64 0]) 6 88 Tryz.underlying189 HI.o.1 HI.o.2.1 HI.o.2.2.1 HI.o.2.2.2 rfl oo (.slice ua acc.length uc) (acc).length cs rfl HO.o ⟨w3.heap.size,0,none⟩ 1 1 [.int .u8 46,.string m.t.word,.string ⟨#[]⟩,.string ⟨#[]⟩,.slice none 0 0,.int .i64 0] rfl rfl (Jg _ _ _ _ _ _ _ _ _ (by first|rfl|simp)) (by simp[Value.oneCell']) (by unfold maxLen;first|omega|simp) (by first|omega|simp) (by simp;omega) ?_));intro v4 w4 hown4 bG _ fK;have M4:Hid (MG (bP f) 6 194 w.heap.size w4 v4 ((acc)++[Simple.of 46 m.t.word])):=MG.wG (x:=Simple.of 46 m.t.word) HC.o (bP.plain f _ _ 46 m.t.word aA aA 0) hown4 bG (by simpa using fK)
       have B4:Hid (Below w.heap.size w w4):=(B3.o.alloc oo _).grown bG (by simp;omega) (fun rr hr=>(HO.o.lt rr hr).1);clear hown4 bG fK HO HC hszA;go_wp2_with fail;go_roundg(gk-2);case measure=>omega
       case rel=>exact⟨v4,k+2,acc++[Simple.of 46 m.t.word],by congr 1,rfl,oo,oo,oo,by simp;omega,M4.o,B4.o,rF.o⟩
     .have h2:(l.length:Int)<=(k:Int)+1:=oo;have rF:Hid (aJ (aY f) (l.drop i)=none):=by
       show _=_;rw[HV.o,List.drop_of_length_le oo];rfl
      go_wp2_with fail;go_ret3
      refine⟨?_,B3.o⟩;unfold Au;rw[rF.o];exact⟨k,rfl⟩
   .have ek4:n.t.kind=4:=by simpa using hk4
    have HV:Hid (aJ (aY f) (l.drop i)=bD (aY f) (acc++[Simple.of 35 n.t.word]) (l.drop (k+1))):=by show _=_;rw[HE.o,Hdr.o];exact Ns ek4
    clear ek4;obtain⟨cs,hown,mG⟩:=(M3.o.alloc (bP.fair f) (.cells #[.int .u8 35,.string n.t.word,.string ⟨#[]⟩,.string ⟨#[]⟩,.slice none 0 0,.int .i64 0] 194));have HO:Hid ((w3.alloc (.cells #[.int .u8 35,.string n.t.word,.string ⟨#[]⟩,.string ⟨#[]⟩,.slice none 0 0,.int .i64 0] 194)).ownsRow w.heap.size 194 6 (.slice ua acc.length uc) (acc).length cs):=hown;have HC:Hid (jv (bP f) (oO w.heap.size (w3.alloc (.cells #[.int .u8 35,.string n.t.word,.string ⟨#[]⟩,.string ⟨#[]⟩,.slice none 0 0,.int .i64 0] 194)) (.slice ua acc.length uc)) (w3.alloc (.cells #[.int .u8 35,.string n.t.word,.string ⟨#[]⟩,.string ⟨#[]⟩,.slice none 0 0,.int .i64 0] 194)) (acc) cs):=mG;have hszA:=B3.o.size;clear hown mG
    go_wp2_with(at_builtin;go_must(refine wpList_append_own_at _ rfl _ _ 189 rfl w.heap.size 194 iT (.agg #[.int .u8 0,.string ⟨#[]⟩,.string ⟨#[]⟩,.string ⟨#[]⟩,.slice none 0 0,.int .i64 0]) 6 88 Tryz.underlying189 HI.o.1 HI.o.2.1 HI.o.2.2.1 HI.o.2.2.2 rfl oo (.slice ua acc.length uc) (acc).length cs rfl HO.o ⟨w3.heap.size,0,none⟩ 1 1 [.int .u8 35,.string n.t.word,.string ⟨#[]⟩,.string ⟨#[]⟩,.slice none 0 0,.int .i64 0] rfl rfl (Jg _ _ _ _ _ _ _ _ _ (by first|rfl|simp)) (by simp[Value.oneCell']) (by unfold maxLen;first|omega|simp) (by first|omega|simp) (by simp;omega) ?_));intro v4 w4 hown4 bG _ fK;have M4:Hid (MG (bP f) 6 194 w.heap.size w4 v4 ((acc)++[Simple.of 35 n.t.word])):=MG.wG (x:=Simple.of 35 n.t.word) HC.o (bP.plain f _ _ 35 n.t.word aA aA 0) hown4 bG (by simpa using fK)
    have B4:Hid (Below w.heap.size w w4):=(B3.o.alloc oo _).grown bG (by simp;omega) (fun rr hr=>(HO.o.lt rr hr).1);clear hown4 bG fK HO HC hszA;go_wp2_with fail;go_roundg(gk-1);case measure=>omega
    case rel=>exact⟨v4,k+1,acc++[Simple.of 35 n.t.word],by congr 1,rfl,oo,oo,oo,by simp;omega,M4.o,B4.o,HV.o⟩
  .have h1:(l.length:Int)<=(k:Int):=oo;have HV:Hid (aJ (aY f) (l.drop i)=some (acc,[])):=by
    show _=_;rw[HE.o,List.drop_of_length_le oo];exact FM
   go_wp2_with fail;go_ret3
   refine⟨?_,B0.o⟩;unfold Au;rw[HV.o];exact⟨_,k,rfl,M0.o.sl (bP.fair f) (bP.sized f) oo,oo,oo,List.drop_of_length_le oo⟩
section
section
variable {rec:List Nd->Option fC} {g b:Nat} {l r:List Nd} {all:List Simple}
theorem xQ(h:aJ rec l=none):dR rec (g+1) b l=none:=by unfold dR;rw[h]
theorem vM(h:aJ rec l=some ([],r)):dR rec (g+1) b l=none:=by unfold dR;rw[h];simp
theorem xR(h:aJ rec l=some (all,[]))(ha:all≠[]):dR rec (g+1) b l=some [(b,all)]:=by unfold dR;rw[h];simp[ha]
theorem Dc(h:aJ rec l=some (all,r))(hr:r≠[])(hc:gQ r=none):dR rec (g+1) b l=none:=by
 unfold dR;rw[h];simp only;by_cases ha:all=[]
 .rw[if_pos ha]
 .rw[if_neg ha,if_neg hr,hc]
theorem xU{c:Nat}{r':List Nd}(h:aJ rec l=some (all,r))(ha:all≠[])(hr:r≠[])(hc:gQ r=some (c,r')):dR rec (g+1) b l=(dR rec g c r').map (fun x=>(b,all)::x):=by
 conv=>lhs;unfold dR
 rw[h];simp only;rw[if_neg ha,if_neg hr,hc]
end
theorem Xp:∃i,prog.info? 191=some i/\i.zero=some (.agg #[.int .u8 0,.slice none 0 0])/\i.size=2/\i.bytes=32:=info_parts (by kernel_rfl)
theorem adC(w:World)(a b:Value)(t:TypeId)(n:Nat)(hn:n=w.heap.size):∀j u,[a,b][j]?=some u->(w.alloc (.cells #[a,b] t)).cell? ((⟨n,0,none⟩:Addr).add j)=some u:=by subst hn;intro j u hu;rw[Addr.add_lit,Nat.zero_add,World.cell?_alloc_mark,<-hu];simp
def Ul(f:Nat)(l:List Nd)(w w':World)(e:Ending):Prop:=
 match fD (aY f) l with
 |none=>e=.returned (.tuple #[.slice none 0 0,.bool false])
 |some ss=>∃sv,e=.returned (.tuple #[sv,.bool true])/\SG (lX (bP f)) 2 (vV w.heap.size w') w' sv ss
structure aeF(f:Nat)(l:List Nd)(w:World)(u:Value)(i b gg:Nat)(ss:List Step)(wr:World):Prop where
 m:MG (lX (bP f)) 2 191 w.heap.size wr u ss
 bel:Below w.heap.size w wr
 e:fD (aY f) l=(dR (aY f) gg b (l.drop i)).map (fun x=>ss++x)
theorem Nw(f:Nat)(hR:FK f)(B:Nat)(l:List Nd)(v:Value)(w:World)(h:Sl (fun b=>b<B) w v l)(hB:B<=w.heap.size)(hd:depth l<=f):
  Calls prog 78 #[v] w fun e w'=>Ul f l w w' e/\Below w.heap.size w w':=by
 have hl:=h.len;have HS:Hid (Sl (fun b=>b<B) w v l):=h;obtain⟨a,cap,rfl⟩:=h.form;have HD:Hid (depth l<=f):=hd;have HR:Hid (FK f):=hR;clear h hd hR;obtain⟨iT,hiT⟩:=Xp;have HI:Hid (prog.info? 191=some iT/\iT.zero=some (.agg #[.int .u8 0,.slice none 0 0])/\iT.size=2/\iT.bytes=32):=hiT;clear hiT;go_in;go_wp2_with fail;go_loopg[4,5,6] (l.length+1) (fun gg v4 v5 v6 wr=>∃(u:Value) (i b:Nat) (ss:List Step),u=v4/\v5=.int .u8 (b:Int)/\v6=.int .i64 (i:Int)/\l.length+1<=i+gg/\i<=l.length/\b<256/\ss.length<=i/\Aside (aeF f l w u i b gg ss wr));case atStart=>exact⟨_,0,0,[],rfl,rfl,rfl,oo,oo,oo,by simp,MG.nil _ _ _ _ _,Below.refl _ _,by unfold fD;simp⟩
 case round=>
  obtain⟨u,i,b,ss,rfl,rfl,rfl,hig,hil,hb,adD,hA⟩:=hrel;have M0:Hid (MG (lX (bP f)) 2 191 w.heap.size wr u ss):=hA.o.m;have B0:Hid (Below w.heap.size w wr):=hA.o.bel;obtain⟨g,rfl⟩:∃g,gk=g+1:=⟨gk-1,oo⟩;have HE:Hid (fD (aY f) l=(dR (aY f) (g+1) b (l.drop i)).map (fun x=>ss++x)):=hA.o.e;clear hA;obtain⟨ua,uc,rfl⟩:=M0.o.form;have hs0:=B0.o.size;go_wp2_with fail;refine(Qh f HR.o B l i _ wr (HS.o.below B0.o hB) oo hil HD.o).mono ?_;rintro e w1 ⟨hp,hb1⟩;have hs1:=hb1.size;have B1:Hid (Below w.heap.size w w1):=B0.o.trans (hb1.mono hs0);have M1:Hid (MG (lX (bP f)) 2 191 w.heap.size w1 (.slice ua ss.length uc) ss):=M0.o.below (lX.fair (bP.fair f)) hb1;have S1:Hid (Sl (fun b=>b<B) w1 (.slice a l.length cap) l):=HS.o.below B1.o hB;clear hb1;unfold Au at hp;cases hcw:aJ (aY f) (l.drop i)with
  |none=>
   rw[hcw]at hp;simp only at hp;obtain⟨k,rfl⟩:=hp;have HV:Hid (fD (aY f) l=none):=by show _=_;rw[HE.o,xQ hcw];rfl
   go_wp2_with fail;go_ret2
   refine⟨?_,B1.o⟩;unfold Ul;rw[HV.o];rfl
  |some q=>
   obtain⟨all,r⟩:=q;rw[hcw]at hp;simp only at hp;obtain⟨sv,k,rfl,hsg,hkl,hik,hdr⟩:=hp;obtain⟨sa,sc,rfl⟩:=hsg.form;have hall:=hsg.len;have HG:Hid (SG (bP f) 6 (vV wr.heap.size w1) w1 (.slice sa all.length sc) all):=hsg;have HDr:Hid (l.drop k=r):=hdr;have HCW:Hid (aJ (aY f) (l.drop i)=some (all,r)):=hcw;clear hsg hdr hcw;by_cases ha:all=[]
   .have HV:Hid (fD (aY f) l=none):=by show _=_;rw[HE.o,vM (r:=r) (by rw[<-ha];exact HCW.o)];rfl
    have hz:((all.length:Int)==0)=true:=by rw[ha];rfl
    clear ha;go_wp2_with fail;go_ret2
    refine⟨?_,B1.o⟩;unfold Ul;rw[HV.o];rfl
   .have hz:((all.length:Int)==0)=false:=by
     cases all with
     |nil=>exact absurd rfl ha
     |cons _ _=>simp;omega
    have HA:Hid (all≠[]):=ha;clear ha;have X1:Hid (lX (bP f) (oO w.heap.size (w1.alloc (.cells #[.int .u8 (b:Int),.slice sa all.length sc] 191)) (.slice ua ss.length uc)) (w1.alloc (.cells #[.int .u8 (b:Int),.slice sa all.length sc] 191)) (b,all) [.int .u8 (b:Int),.slice sa all.length sc]):=M0.o.apart (D:=lX (bP f)) (lX.fair (bP.fair f)) ⟨_,rfl,HG.o⟩ hs0 (by simp) (fun q hq=>Below.heap_alloc _ _ _ hq)
    obtain⟨cs,hown,mG⟩:=(M1.o.alloc (lX.fair (bP.fair f)) (.cells #[.int .u8 (b:Int),.slice sa all.length sc] 191));have HO:Hid ((w1.alloc (.cells #[.int .u8 (b:Int),.slice sa all.length sc] 191)).ownsRow w.heap.size 191 2 (.slice ua ss.length uc) ss.length cs):=hown;have HC:Hid (jv (lX (bP f)) (oO w.heap.size (w1.alloc (.cells #[.int .u8 (b:Int),.slice sa all.length sc] 191)) (.slice ua ss.length uc)) (w1.alloc (.cells #[.int .u8 (b:Int),.slice sa all.length sc] 191)) ss cs):=mG;clear hown mG
    go_wp2_with(at_builtin;go_must(refine wpList_append_own_at _ rfl _ _ 147 rfl w.heap.size 191 iT (.agg #[.int .u8 0,.slice none 0 0]) 2 32 Tryz.underlying147 HI.o.1 HI.o.2.1 HI.o.2.2.1 HI.o.2.2.2 rfl oo (.slice ua ss.length uc) ss.length cs rfl HO.o ⟨w1.heap.size,0,none⟩ 1 1 [.int .u8 (b:Int),.slice sa all.length sc] rfl rfl (adC _ _ _ _ _ rfl) (by simp[Value.oneCell']) (by unfold maxLen;omega) oo (by simp;omega) ?_));intro v4 w4 hown4 bG _ fK;have M4:Hid (MG (lX (bP f)) 2 191 w.heap.size w4 v4 (ss++[(b,all)])):=MG.snoc (x:=(b,all)) (lX.fair (bP.fair f)) HC.o X1.o hown4 bG (by simpa using fK);have B4:Hid (Below w.heap.size w w4):=(B1.o.alloc oo _).grown bG (by simp;omega) (fun rr hr=>(HO.o.lt rr hr).1);have S4:Hid (Sl (fun b=>b<B) w4 (.slice a l.length cap) l):=HS.o.below B4.o hB;have hs4:=B4.o.size;clear hown4 bG fK HO HC X1 HG M1 B1 M0 B0 S1 hs0 hs1
    by_cases hke:k=l.length
    .have hz2:((k:Int)==(l.length:Int))=true:=by rw[hke];simp
     have HRN:Hid (r=[]):=by show _=_;rw[<-HDr.o,hke];simp
     have HV:Hid (fD (aY f) l=some (ss++[(b,all)])):=by show _=_;rw[HE.o,xR (by rw[HCW.o,HRN.o]) HA.o];rfl
     clear hke;go_wp2_with fail;go_ret2
     refine⟨?_,B4.o⟩;unfold Ul;rw[HV.o];exact⟨_,rfl,M4.o.sl (lX.fair (bP.fair f)) (lX.sized _) (by simp;omega)⟩
    .have hz2:((k:Int)==(l.length:Int))=false:=by simp;omega
     have hkl2:k<l.length:=oo;have HRN:Hid (r≠[]):=by intro e;have:=HDr.o;rw[e]at this;have:=congrArg List.length this;simp at this;omega
     clear hke;go_wp2_with fail;refine(JU B l k _ w4 S4.o oo hkl2).mono ?_;rintro e w5 ⟨hp,hb5⟩;have M5:Hid (MG (lX (bP f)) 2 191 w.heap.size w5 v4 (ss++[(b,all)])):=M4.o.below (lX.fair (bP.fair f)) hb5;have B5:Hid (Below w.heap.size w w5):=B4.o.trans (hb5.mono hs4);clear hb5;unfold vC at hp;rw[HDr.o]at hp;cases hcb:gQ r with
     |none=>
      rw[hcb]at hp;simp only at hp;obtain⟨k',rfl⟩:=hp;have HV:Hid (fD (aY f) l=none):=by show _=_;rw[HE.o,Dc HCW.o HRN.o hcb];rfl
      go_wp2_with fail;go_ret2
      refine⟨?_,B5.o⟩;unfold Ul;rw[HV.o];rfl
     |some q=>
      obtain⟨c,r'⟩:=q;rw[hcb]at hp;simp only at hp;obtain⟨k',rfl,hkk,hkl',hdr',hc0,hc256⟩:=hp;have hzc:((c:Int)==0)=false:=by simp;omega
      have HV:Hid (fD (aY f) l=(dR (aY f) g c (l.drop k')).map (fun x=>(ss++[(b,all)])++x)):=by
       show _=_;rw[HE.o,xU HCW.o HA.o HRN.o hcb,hdr',Option.map_map];congr 1
       funext x
       simp
      go_wp2_with fail;go_roundg g;case measure=>omega
      case rel=>exact⟨v4,k',c,ss++[(b,all)],rfl,rfl,rfl,oo,oo,hc256,by simp;omega,M5.o,B5.o,HV.o⟩
end
end Go.Proofs.YtlliliddljkbfaaGreatDoor
