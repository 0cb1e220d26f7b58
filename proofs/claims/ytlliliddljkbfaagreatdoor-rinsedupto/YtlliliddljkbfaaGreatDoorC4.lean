import Derived.Test.YtlliliddljkbfaaGreatDoorC3
import Derived.Deep.RegionLaw
namespace Go.Proofs.YtlliliddljkbfaaGreatDoor
set_option maxHeartbeats 64000000
set_option maxRecDepth 100000
open Go.Proofs.Tryz (prog)
open Go.RowKit Sp
section
theorem pV:∃i,prog.info? 134=some i/\i.zero=some (.agg #[.int .i64 0,.string ⟨#[]⟩,.string ⟨#[]⟩,.slice none 0 0])/\i.size=4/\i.bytes=64:=info_parts (by kernel_rfl)
def TL(w:World)(g:Nat)(ts:List Tok):Prop:=∀j (hj:j<ts.length),w.cell? ⟨g,j*3,none⟩=some (.int .i64 ts[j].kind)/\w.cell? ⟨g,j*3+1,none⟩=some (.string ts[j].word)/\w.cell? ⟨g,j*3+2,none⟩=some (.string ts[j].unit)
theorem TL.below{w w':World}{g B:Nat}{ts:List Tok}(h:TL w g ts)(hb:Below B w w')(hg:g<B):TL w' g ts:=fun j hj=>by obtain⟨h1,h2,h3⟩:=h j hj;exact⟨by rw[hb.cell (show g<B from hg)];exact h1,by rw[hb.cell (show g<B from hg)];exact h2,by rw[hb.cell (show g<B from hg)];exact h3⟩
def NB(w:World)(g:Nat)(a b c d:Value):Prop:=w.heap[g]?=some (.cells #[a,b,c,d] 134 (0,0))
section
variable {w w':World} {g:Nat} {a b c d:Value}
theorem NB.lt(h:NB w g a b c d):g<w.heap.size:=(Array.getElem?_eq_some_iff.1 h).1
theorem NB.cs(h:NB w g a b c d):w.cell? ⟨g,0,none⟩=some a/\w.cell? ⟨g,1,none⟩=some b/\w.cell? ⟨g,2,none⟩=some c/\w.cell? ⟨g,3,none⟩=some d:=by refine⟨?_,?_,?_,?_⟩<;>(unfold World.cell?;rw[h];rfl)
theorem NB.f(h:NB w g a b c d)(o:Nat):w.frozen? ⟨g,o,none⟩=false:=by unfold World.frozen?;rw[h];rfl
theorem NB.jr(h:NB w g a b c d)(x:Value):NB (w.setCell ⟨g,3,none⟩ x) g a b c x:=by have hl:=h.lt;unfold NB at h⊢;simp only[World.setCell,Array.getElem?_modify,h];simp
theorem NB.keep(h:NB w g a b c d)(e:w'.heap[g]?=w.heap[g]?):NB w' g a b c d:=by unfold NB;rw[e];exact h
theorem NB.below(h:NB w g a b c d)(hb:Below w.heap.size w w'):NB w' g a b c d:=h.keep (hb.block g h.lt)
theorem NB.alloc(h:NB w g a b c d)(o:Obj):NB (w.alloc o) g a b c d:=h.keep (Below.heap_alloc _ _ _ h.lt)
end
def nC(w:World)(g:Nat)(a b c d:Value):World:=(((w.setCell ⟨g,0,none⟩ a).setCell ⟨g,1,none⟩ b).setCell ⟨g,2,none⟩ c).setCell ⟨g,3,none⟩ d
theorem kC{B g:Nat}{x w:World}(h:Below B x w)(hg:B<=g)(a b c d:Value):Below B x (nC w g a b c d):=(((h.setCell hg a).setCell hg b).setCell hg c).setCell hg d
theorem jA(w:World){g k:Nat}(h:k≠g)(a b c d:Value):(nC w g a b c d).heap[k]?=w.heap[k]?:=by unfold nC;rw[Below.heap_setCell _ _ _ _ h,Below.heap_setCell _ _ _ _ h,Below.heap_setCell _ _ _ _ h,Below.heap_setCell _ _ _ _ h]
theorem SI(w:World)(g:Nat)(a b c d:Value):(nC w g a b c d).heap.size=w.heap.size:=by simp[nC,World.setCell]
theorem uK.o{T:TypeId}{W w:World}{v:Value}{l:List Nd}{a b c d:Value}(h:uK T (W.heap.size+2) w v l)(h6:l.length<=600):Sl (vV W.heap.size (nC w W.heap.size a b c d)) (nC w W.heap.size a b c d) v l:=(h.sl h6).keep (fun g hg=>⟨by have:=hg.1;omega,by rw[SI];exact hg.2⟩) fun g hg=>jA w (by have:=hg.1;omega) _ _ _ _
theorem YP(m:Nat):∀(ts:List Tok) (i g cap:Nat) (w:World) (_:ts.length-i<=m) (_:ts.length<=600) (hi:i<ts.length) (_:TL w g ts) (_:g<w.heap.size) (_:∀t∈ts,cZ t),
  Calls prog 72 #[.slice (some ⟨g,0,none⟩) ts.length cap,.int .i64 (i:Int)] w fun e w'=>
   ∃kv j,e=.returned (.tuple #[dM ts[i] kv,.int .i64 ((j:Nat):Int)])/\i<j/\j<=ts.length/\ts.drop j=(inside ts[i] (ts.drop (i+1))).2 /\
    Sl (vV w.heap.size w') w' kv (inside ts[i] (ts.drop (i+1))).1/\Below w.heap.size w w':=by
 refine Nat.strongRecOn m ?_;clear m;intro m ih ts i g cap w hm hl hi hT hg hok;have tY:Hid (∀t∈ts,cZ t):=hok;clear hok;obtain⟨iT,hiT⟩:=pV;have HI:Hid (prog.info? 134=some iT/\iT.zero=some (.agg #[.int .i64 0,.string ⟨#[]⟩,.string ⟨#[]⟩,.slice none 0 0])/\iT.size=4/\iT.bytes=64):=hiT;clear hiT;have HT:Hid (TL w g ts):=hT;obtain⟨t,ht⟩:∃t,ts[i]=t:=⟨_,rfl⟩;have Ht:Hid (ts[i]=t):=ht;clear ht;have h1:(i:Int)<(ts.length:Int):=oo;obtain⟨c0,c1,c2⟩:=hT i hi;rw[Ht.o]at c0 c1 c2⊢;clear hT;have hlen:=sH t (ts.drop (i+1));unfold dM;go_in;go_wp2_with fail;refine pmb (qN t _) fun w1 hb1=>?_;have R1:Hid (NB w1 w.heap.size (.int .i64 0) (.string ⟨#[]⟩) (.string ⟨#[]⟩) (.slice none 0 0)):=NB.below (NB.alloc (heap_alloc_new w _) _) hb1
 have N1:Hid (NB w1 (w.heap.size+1) (.int .i64 t.kind) (.string t.word) (.string t.unit) (.slice none 0 0)):=by
  have h:=heap_alloc_new (w.alloc (.cells #[.int .i64 0,.string ⟨#[]⟩,.string ⟨#[]⟩,.slice none 0 0] 134)) (.cells #[.int .i64 t.kind,.string t.word,.string t.unit,.slice none 0 0] 134);have e:(w.alloc (.cells #[.int .i64 0,.string ⟨#[]⟩,.string ⟨#[]⟩,.slice none 0 0] 134)).heap.size=w.heap.size+1:=by simp
  rw[e]at h;exact NB.below h hb1
 have HB1:Hid (Below w.heap.size w w1):=(((Below.refl _ _).alloc nl _).alloc (by simp) _).trans (hb1.mono (by simp;omega));have hs1:w.heap.size+2<=w1.heap.size:=by have:=hb1.size;simpa using this
 clear hb1 c0 c1 c2;cases hc:(closing t).toList==([]:List UInt8)
 .have hc':¬closing t=aA:=by rw[aH]at hc;simpa[aA]using hc
  have HIn:Hid (inside t (ts.drop (i+1))=kids (closing t) (ts.drop (i+1))):=by show _=_;unfold inside;rw[if_neg hc']
  have HC:Hid (¬closing t=aA):=hc';clear hc';go_wp2_with fail;go_loopg[1] ts.length (fun gg v1 wr=>∃(j:Nat) (kv:Value) (ks:List Nd),ts.length<=j+gg/\j<=ts.length/\i<j/\v1=.int .i64 (j:Int)/\ks.length<=j/\Aside (NB wr w.heap.size (.int .i64 0) (.string ⟨#[]⟩) (.string ⟨#[]⟩) (.slice none 0 0)/\NB wr (w.heap.size+1) (.int .i64 t.kind) (.string t.word) (.string t.unit) kv/\uK 134 (w.heap.size+2) wr kv ks/\Below w.heap.size w wr/\w.heap.size+2<=wr.heap.size /\
   (inside t (ts.drop (i+1))).1=ks++(kids (closing t) (ts.drop j)).1/\(inside t (ts.drop (i+1))).2=(kids (closing t) (ts.drop j)).2))
  case atStart=>exact⟨i+1,_,[],oo,oo,oo,rfl,by simp,R1.o,N1.o,uK.nil _ _ _,HB1.o,hs1,by rw[HIn.o];rfl,by rw[HIn.o]⟩
  case round=>
   obtain⟨j,kv,ks,hj,hjl,hij,rfl,hks,hA⟩:=hrel;have R2:Hid (NB wr w.heap.size (.int .i64 0) (.string ⟨#[]⟩) (.string ⟨#[]⟩) (.slice none 0 0)):=hA.o.1;have N2:Hid (NB wr (w.heap.size+1) (.int .i64 t.kind) (.string t.word) (.string t.unit) kv):=hA.o.2.1;have M2:Hid (uK 134 (w.heap.size+2) wr kv ks):=hA.o.2.2.1;have B2:Hid (Below w.heap.size w wr):=hA.o.2.2.2.1;have hs2:w.heap.size+2<=wr.heap.size:=hA.o.2.2.2.2.1;have E1:Hid ((inside t (ts.drop (i+1))).1=ks++(kids (closing t) (ts.drop j)).1):=hA.o.2.2.2.2.2.1;have E2:Hid ((inside t (ts.drop (i+1))).2=(kids (closing t) (ts.drop j)).2):=hA.o.2.2.2.2.2.2;clear hA R1 N1 HB1;obtain⟨ka,kc,rfl⟩:=M2.o.form;obtain⟨r0,r1,r2,r3⟩:=R2.o.cs;obtain⟨n0,n1,n2,n3⟩:=N2.o.cs;have f0:=R2.o.f 0;have f1:=R2.o.f 1;have f2:=R2.o.f 2;have f3:=R2.o.f 3;by_cases hlt:j<ts.length
   .have h2:(j:Int)<(ts.length:Int):=oo;have T2:Hid (TL wr g ts):=HT.o.below B2.o hg;obtain⟨x,hx⟩:∃x,ts[j]=x:=⟨_,rfl⟩;have Hx:Hid (ts[j]=x):=hx;have Hdr:Hid (ts.drop j=x::ts.drop (j+1)):=by show _=_;rw[<-hx];exact List.drop_eq_getElem_cons hlt
    obtain⟨d0,d1,d2⟩:=T2.o j hlt;rw[hx]at d0 d1 d2;clear hx;have HW:Hid ((x.word.toList==(closing t).toList)=decide (x.word=closing t)):=bytes_beq _ _;by_cases hend:ay x (closing t)=true
    .have acC:(x.kind==15)=true:=by simp[ay]at hend;simpa using hend.1
     have hwd:(x.word.toList==(closing t).toList)=true:=by rw[HW.o];simp[ay]at hend;simpa using hend.2
     have HK:Hid (kids (closing t) (ts.drop j)=([],ts.drop (j+1))):=by show _=_;rw[Hdr.o];exact qP ⟨HC.o,hend⟩
     clear hend;go_wp2_with fail;refine bodyPost_ret (v:=.tuple #[.agg #[.int .i64 t.kind,.string t.word,.string t.unit,.slice ka ks.length kc],.int .i64 ((j:Int)+1)]) (by simp[results,Tryz.results72,go_sem,r0,r1,r2,r3]) rfl ?_;exact⟨_,j+1,rfl,oo,oo,by rw[E2.o,HK.o],by rw[E1.o,HK.o,List.append_nil];exact M2.o.o oo,kC B2.o nl _ _ _ _⟩
    .have HK:Hid (kids (closing t) (ts.drop j)=(.mk x (inside x (ts.drop (j+1))).1::(kids (closing t) (inside x (ts.drop (j+1))).2).1,(kids (closing t) (inside x (ts.drop (j+1))).2).2)):=by show _=_;rw[Hdr.o];exact kQ (fun h=>hend h.2)
     have hend':(x.kind==15)=false\/((x.kind==15)=true/\(x.word.toList==(closing t).toList)=false):=by
      rw[HW.o];simp[ay]at hend;by_cases h:x.kind=15
      .exact .inr ⟨by simpa using h,by simpa using hend h⟩
      .exact .inl (by simpa using h)
     clear hend HW;rcases hend' with acC|⟨acC,hwd⟩;all_goals
      go_wp2_with fail;refine(ih (ts.length-j) oo ts j g cap wr oo hl hlt T2.o oo tY.o).mono ?_;rw[Hx.o];rintro e w3 ⟨kv',j',rfl,hjj,ad2,hdr,hsl,hb3⟩;obtain⟨ins,SK⟩:∃p,Hid (inside x (ts.drop (j+1))=p):=⟨_,hid rfl⟩;rw[SK.o]at hdr hsl;obtain⟨a',cp',rfl⟩:=hsl.form;have hil:ins.1.length<=600:=hsl.len;have ad3:=hb3.size;have hlt3:w.heap.size+1<w3.heap.size:=oo;have R3:Hid (NB w3 w.heap.size (.int .i64 0) (.string ⟨#[]⟩) (.string ⟨#[]⟩) (.slice none 0 0)):=R2.o.below hb3;have N3:Hid (NB w3 (w.heap.size+1) (.int .i64 t.kind) (.string t.word) (.string t.unit) (.slice ka ks.length kc)):=N2.o.below hb3;have B3:Hid (Below w.heap.size w w3):=B2.o.trans (hb3.mono oo);have M3:∀A C,Hid (uK 134 (w.heap.size+2) ((w3.alloc A).alloc C) (.slice ka ks.length kc) ks):=fun A C=>((M2.o.below hb3).alloc A).alloc C
      have S3:∀A C,Hid (Sl (oO (w.heap.size+2) ((w3.alloc A).alloc C) (.slice ka ks.length kc)) ((w3.alloc A).alloc C) (.slice a' ins.1.length cp') ins.1):=fun A C=>M2.o.apart hsl hs2 (by simp;omega) (fun g hg=>by rw[Below.heap_alloc _ _ _ (by simp;omega),Below.heap_alloc _ _ _ hg]);have GN:Hid (ts.drop j'=ins.2):=hdr;clear hdr hsl hb3 R2 N2 B2 r0 r1 r2 r3 n0 n1 n2 n3 f0 f1 f2 f3;obtain⟨n0,n1,n2,n3⟩:=N3.o.cs;have g3:=N3.o.f 3;unfold dM;obtain⟨cs,hown,Vl⟩:=(M3 (.cells #[.int .i64 x.kind,.string x.word,.string x.unit,.slice a' ins.1.length cp'] 134) (.cells #[.int .i64 x.kind,.string x.word,.string x.unit,.slice a' ins.1.length cp'] 134)).o
      have HO:Hid (((w3.alloc (.cells #[.int .i64 x.kind,.string x.word,.string x.unit,.slice a' ins.1.length cp'] 134)).alloc (.cells #[.int .i64 x.kind,.string x.word,.string x.unit,.slice a' ins.1.length cp'] 134)).ownsRow (w.heap.size+2) 134 4 (.slice ka ks.length kc) ks.length cs):=hown;have HKd:Hid (kY (oO (w.heap.size+2) ((w3.alloc (.cells #[.int .i64 x.kind,.string x.word,.string x.unit,.slice a' ins.1.length cp'] 134)).alloc (.cells #[.int .i64 x.kind,.string x.word,.string x.unit,.slice a' ins.1.length cp'] 134)) (.slice ka ks.length kc)) ((w3.alloc (.cells #[.int .i64 x.kind,.string x.word,.string x.unit,.slice a' ins.1.length cp'] 134)).alloc (.cells #[.int .i64 x.kind,.string x.word,.string x.unit,.slice a' ins.1.length cp'] 134)) ks cs):=Vl;clear hown Vl
      go_wp2_with(at_builtin;go_must(refine wpList_append_own_at _ rfl _ _ 59 rfl (w.heap.size+2) 134 iT (.agg #[.int .i64 0,.string ⟨#[]⟩,.string ⟨#[]⟩,.slice none 0 0]) 4 64 Tryz.underlying59 HI.o.1 HI.o.2.1 HI.o.2.2.1 HI.o.2.2.2 rfl oo (.slice ka ks.length kc) ks.length cs rfl HO.o ⟨w3.heap.size+1,0,none⟩ 1 1 [.int .i64 x.kind,.string x.word,.string x.unit,.slice a' ins.1.length cp'] rfl rfl ?_ (uM _ _ _ _) ?_ ?_ ?_ ?_))
      .intro q u hu;have e:(w3.alloc (.cells #[.int .i64 x.kind,.string x.word,.string x.unit,.slice a' ins.1.length cp'] 134)).heap.size=w3.heap.size+1:=by simp
       rw[Addr.add_lit,Nat.zero_add,<-e,World.cell?_alloc_mark,<-hu];simp
      .unfold maxLen;omega
      .omega
      .simp;omega
      intro v4 w4 hown4 bG _ fK;have M4:Hid (uK 134 (w.heap.size+2) w4 v4 (ks++[.mk x ins.1])):=uK.snoc (n:=.mk x ins.1) HKd.o (S3 _ _).o (tY.o x (by rw[<-Hx.o];exact List.getElem_mem _)) hown4 bG (by simpa using fK);obtain⟨va,vc,e4⟩:=M4.o.form;rw[List.length_append,List.length_singleton]at e4;subst e4;have hrow:∀rr,Value.ownBlock (.slice ka ks.length kc)=some rr->w.heap.size+2<=rr:=fun rr hr=>(HO.o.lt rr hr).1;have hold:∀k,k<w3.heap.size->k<w.heap.size+2->w4.heap[k]?=w3.heap[k]?:=fun k hk hk2=>by rw[bG.block k (by simp;omega) (fun e=>by have:=hrow k e.symm;omega),Below.heap_alloc _ _ _ (by simp;omega),Below.heap_alloc _ _ _ hk]
      have R4:Hid (NB w4 w.heap.size (.int .i64 0) (.string ⟨#[]⟩) (.string ⟨#[]⟩) (.slice none 0 0)):=R3.o.keep (hold _ oo oo);have N4:Hid (NB w4 (w.heap.size+1) (.int .i64 t.kind) (.string t.word) (.string t.unit) (.slice ka ks.length kc)):=N3.o.keep (hold _ oo oo);have B4:Hid (Below w.heap.size w w4):=((B3.o.alloc oo _).alloc (by simp;omega) _).grown bG (by simp;omega) (fun rr hr=>by have:=hrow rr hr;omega);have hs4:w.heap.size+2<=w4.heap.size:=by have:=bG.size;simp at this;omega
      clear hown4 bG fK hold hrow R3 N3 B3 M3 S3 HO HKd n0 n1 n2 n3 g3;obtain⟨n0,n1,n2,n3⟩:=N4.o.cs;have g3:=N4.o.f 3;go_wp2_with fail;have hk5:Hid ((w4.setCell ⟨w.heap.size+1,3,none⟩ (.slice va (ks.length+1) vc)).heap.size=w4.heap.size):=by simp[hid,World.setCell]
      go_roundg(ts.length-j');case measure=>omega
      case rel=>
       refine⟨j',.slice va (ks.length+1) vc,ks++[.mk x ins.1],oo,oo,oo,rfl,by simp;omega,?_,?_,?_,?_,?_,?_,?_⟩
       .exact R4.o.keep (Below.heap_setCell _ _ _ _ (by show w.heap.size≠w.heap.size+1;omega))
       .exact N4.o.jr _
       .exact M4.o.keep (by rw[hk5.o];exact Nat.le_refl _) fun k hk _=>Below.heap_setCell _ _ _ _ (by show k≠w.heap.size+1;omega)
       .exact B4.o.setCell (by show w.heap.size<=w.heap.size+1;omega) _
       .rw[hk5.o];exact hs4
       .rw[E1.o,HK.o,GN.o,SK.o];simp
       .rw[E2.o,HK.o,GN.o,SK.o]
   .have h2:(ts.length:Int)<=(j:Int):=oo;have HK:Hid (kids (closing t) (ts.drop j)=([],[])):=by show _=_;rw[List.drop_of_length_le oo,kJ]
    go_wp2_with fail;refine bodyPost_ret (v:=.tuple #[.agg #[.int .i64 t.kind,.string t.word,.string t.unit,.slice ka ks.length kc],.int .i64 (j:Int)]) (by simp[results,Tryz.results72,go_sem,r0,r1,r2,r3]) rfl ?_;exact⟨_,j,rfl,oo,oo,by rw[E2.o,HK.o];exact List.drop_of_length_le oo,by rw[E1.o,HK.o,List.append_nil];exact M2.o.o oo,kC B2.o nl _ _ _ _⟩
 .have hc':closing t=aA:=by rw[aH]at hc;simpa[aA]using hc
  have HIn:Hid (inside t (ts.drop (i+1))=([],ts.drop (i+1))):=by show _=_;unfold inside;rw[if_pos hc']
  clear hc';obtain⟨r0,r1,r2,r3⟩:=R1.o.cs;obtain⟨n0,n1,n2,n3⟩:=N1.o.cs;have f0:=R1.o.f 0;have f1:=R1.o.f 1;have f2:=R1.o.f 2;have f3:=R1.o.f 3;go_wp2_with fail;refine bodyPost_ret (v:=.tuple #[.agg #[.int .i64 t.kind,.string t.word,.string t.unit,.slice none 0 0],.int .i64 ((i:Int)+1)]) (by simp[results,Tryz.results72,go_sem,r0,r1,r2,r3]) rfl ?_;refine⟨.slice none 0 0,i+1,rfl,oo,oo,by rw[HIn.o],by rw[HIn.o];exact Sl.nil _ _,?_⟩;exact kC HB1.o nl _ _ _ _
end
def TSl(w:World)(v:Value)(ts:List Tok):Prop:=∃(a:Option Addr) (cap:Nat),v=.slice a ts.length cap/\(ts≠[]->∃g,a=some ⟨g,0,none⟩/\g<w.heap.size/\TL w g ts)
theorem Vm(ts:List Tok)(v:Value)(w:World)(hl:ts.length<=600)(h:TSl w v ts)(hok:∀t∈ts,cZ t):
  Calls prog 37 #[v] w fun e w'=>∃v',e=.returned v'/\Sl (vV w.heap.size w') w' v' (nodes ts)/\Below w.heap.size w w':=by
 obtain⟨a,cap,rfl,h⟩:=h;have HT:Hid (ts≠[]->∃g,a=some ⟨g,0,none⟩/\g<w.heap.size/\TL w g ts):=h;have tY:Hid (∀t∈ts,cZ t):=hok;clear h hok;obtain⟨iT,hiT⟩:=pV;have HI:Hid (prog.info? 134=some iT/\iT.zero=some (.agg #[.int .i64 0,.string ⟨#[]⟩,.string ⟨#[]⟩,.slice none 0 0])/\iT.size=4/\iT.bytes=64):=hiT;clear hiT;go_in;go_wp2_with fail;go_loopg[3,4] ts.length (fun gg v3 v4 wr=>∃(j:Nat) (kv:Value) (ks:List Nd),ts.length<=j+gg/\j<=ts.length/\v4=.int .i64 (j:Int)/\kv=v3/\ks.length<=j/\Aside (uK 134 w.heap.size wr kv ks/\Below w.heap.size w wr/\nodes ts=ks++nodes (ts.drop j)));case atStart=>exact⟨0,_,[],oo,oo,rfl,rfl,by simp,uK.nil _ _ _,Below.refl _ _,by simp⟩
 case round=>
  obtain⟨j,kv,ks,hj,hjl,rfl,rfl,hks,hA⟩:=hrel;have M2:Hid (uK 134 w.heap.size wr kv ks):=hA.o.1;have B2:Hid (Below w.heap.size w wr):=hA.o.2.1;have E1:Hid (nodes ts=ks++nodes (ts.drop j)):=hA.o.2.2;clear hA;obtain⟨ka,kc,rfl⟩:=M2.o.form;have hs2:=B2.o.size;by_cases hlt:j<ts.length
  .have h2:(j:Int)<(ts.length:Int):=oo;obtain⟨g,rfl,hg,hT⟩:=HT.o (by rintro rfl;simp at hlt);have T2:Hid (TL wr g ts):=hT.below B2.o hg;clear hT;obtain⟨x,hx⟩:∃x,ts[j]=x:=⟨_,rfl⟩;have Hx:Hid (ts[j]=x):=hx;have Hdr:Hid (ts.drop j=x::ts.drop (j+1)):=by show _=_;rw[<-hx];exact List.drop_eq_getElem_cons hlt
   have HK:Hid (nodes (ts.drop j)=.mk x (inside x (ts.drop (j+1))).1::nodes (inside x (ts.drop (j+1))).2):=by show _=_;rw[Hdr.o];unfold nodes;rw[kQ (fun h=>h.1 rfl)]
   clear hx;go_wp2_with fail;refine(YP _ ts j g cap wr nl hl hlt T2.o oo tY.o).mono ?_;rw[Hx.o];rintro e w3 ⟨kv',j',rfl,hjj,ad2,hdr,hsl,hb3⟩;obtain⟨ins,SK⟩:∃p,Hid (inside x (ts.drop (j+1))=p):=⟨_,hid rfl⟩;rw[SK.o]at hdr hsl;obtain⟨a',cp',rfl⟩:=hsl.form;have hil:ins.1.length<=600:=hsl.len;have ad3:=hb3.size;have B3:Hid (Below w.heap.size w w3):=B2.o.trans (hb3.mono oo);have M3:∀A C,Hid (uK 134 w.heap.size ((w3.alloc A).alloc C) (.slice ka ks.length kc) ks):=fun A C=>((M2.o.below hb3).alloc A).alloc C;have S3:∀A C,Hid (Sl (oO w.heap.size ((w3.alloc A).alloc C) (.slice ka ks.length kc)) ((w3.alloc A).alloc C) (.slice a' ins.1.length cp') ins.1):=fun A C=>M2.o.apart hsl hs2 (by simp;omega) (fun g hg=>by rw[Below.heap_alloc _ _ _ (by simp;omega),Below.heap_alloc _ _ _ hg]);have GN:Hid (ts.drop j'=ins.2):=hdr;clear hdr hsl hb3 B2;unfold dM
   obtain⟨cs,hown,Vl⟩:=(M3 (.cells #[.int .i64 x.kind,.string x.word,.string x.unit,.slice a' ins.1.length cp'] 134) (.cells #[.int .i64 x.kind,.string x.word,.string x.unit,.slice a' ins.1.length cp'] 134)).o;have HO:Hid (((w3.alloc (.cells #[.int .i64 x.kind,.string x.word,.string x.unit,.slice a' ins.1.length cp'] 134)).alloc (.cells #[.int .i64 x.kind,.string x.word,.string x.unit,.slice a' ins.1.length cp'] 134)).ownsRow w.heap.size 134 4 (.slice ka ks.length kc) ks.length cs):=hown
   have HKd:Hid (kY (oO w.heap.size ((w3.alloc (.cells #[.int .i64 x.kind,.string x.word,.string x.unit,.slice a' ins.1.length cp'] 134)).alloc (.cells #[.int .i64 x.kind,.string x.word,.string x.unit,.slice a' ins.1.length cp'] 134)) (.slice ka ks.length kc)) ((w3.alloc (.cells #[.int .i64 x.kind,.string x.word,.string x.unit,.slice a' ins.1.length cp'] 134)).alloc (.cells #[.int .i64 x.kind,.string x.word,.string x.unit,.slice a' ins.1.length cp'] 134)) ks cs):=Vl;clear hown Vl
   go_wp2_with(at_builtin;go_must(refine wpList_append_own_at _ rfl _ _ 59 rfl w.heap.size 134 iT (.agg #[.int .i64 0,.string ⟨#[]⟩,.string ⟨#[]⟩,.slice none 0 0]) 4 64 Tryz.underlying59 HI.o.1 HI.o.2.1 HI.o.2.2.1 HI.o.2.2.2 rfl oo (.slice ka ks.length kc) ks.length cs rfl HO.o ⟨w3.heap.size+1,0,none⟩ 1 1 [.int .i64 x.kind,.string x.word,.string x.unit,.slice a' ins.1.length cp'] rfl rfl ?_ (uM _ _ _ _) ?_ ?_ ?_ ?_))
   .intro q u hu;have e:(w3.alloc (.cells #[.int .i64 x.kind,.string x.word,.string x.unit,.slice a' ins.1.length cp'] 134)).heap.size=w3.heap.size+1:=by simp
    rw[Addr.add_lit,Nat.zero_add,<-e,World.cell?_alloc_mark,<-hu];simp
   .unfold maxLen;omega
   .omega
   .simp;omega
   intro v4 w4 hown4 bG _ fK;have M4:Hid (uK 134 w.heap.size w4 v4 (ks++[.mk x ins.1])):=uK.snoc (n:=.mk x ins.1) HKd.o (S3 _ _).o (tY.o x (by rw[<-Hx.o];exact List.getElem_mem _)) hown4 bG (by simpa using fK);have B4:Hid (Below w.heap.size w w4):=((B3.o.alloc oo _).alloc (by simp;omega) _).grown bG (by simp;omega) (fun rr hr=>(HO.o.lt rr hr).1);clear hown4 bG fK B3 M3 S3 HO HKd;go_wp2_with fail;go_roundg(ts.length-j');case measure=>omega
   case rel=>exact⟨j',v4,ks++[.mk x ins.1],oo,oo,rfl,rfl,by simp;omega,M4.o,B4.o,by rw[E1.o,HK.o,GN.o,SK.o];simp⟩
  .have h2:(ts.length:Int)<=(j:Int):=oo;have HK:Hid (nodes ts=ks):=by
    show _=_;rw[E1.o,List.drop_of_length_le oo];simp[nodes,kJ]
   go_wp2_with fail;go_ret;exact⟨_,rfl,by rw[HK.o];exact M2.o.sl oo,B2.o⟩
section
theorem fZ{P:Program}{ops:Array Oper}{o:Oper}{a:Act}{w:World}{K:Act->World->Prop}{Q:Exit->Act->World->Prop}{E:Prop}
  (hg:o.guard=none) (s x:Operand) (t:TypeId) (hop:o.op=Op.call { callee:=Callee.builtin Builtin.append,args:=#[s,x],argTypes:=#[t,t] })
  (base:Nat) (e:TypeId) (i:TypeInfo) (z:Value) (size bytes:Nat) (h1:P.underlying t=some (.slice e)) (h2:P.info? e=some i) (h3:i.zero=some z) (h4:i.size=size) (h5:i.bytes=bytes) (h6:z.cells.size=size) (h7:0<size)
  (v:Value) (n:Nat) (xs:List Value) (hs:a.eval s=v) (hown:w.ownsRow base e size v n xs)
  (ad:Addr) (m c:Nat) (news:List Value) (hx:a.eval x=.slice (some ad) m c) (hn:news.length=m*size) (hc:∀j u,news[j]?=some u->w.cell? (ad.add j)=some u) (h1c:∀u∈news,u.oneCell'=true)
  (b1:n+m<=maxLen) (b2:(n+m)*bytes<=140737488355328) (hbase:base<=w.heap.size)
  (hK:∀v' w',w'.ownsRow base e size v' (n+m) (xs++news)->w.grownBy w' v.ownBlock->(v'.ownBlock=v.ownBlock\/v'.ownBlock=some w.heap.size)->K (a.put o.dst v') w'):
  if Region.wanted o (yielded ops a.tmps)=true then Oper.wp P o a w K Q else E:=by
 have hw:Region.wanted o (yielded ops a.tmps)=true:=by simp[Region.wanted,hg]
 rw[if_pos hw];obtain⟨v',w',hr,r1,r2,_,r4⟩:=run_append_own_at (P:=P) w base t o.type e i z size bytes h1 h2 h3 h4 h5 h6 h7 v n xs hown ad m c news hn hc h1c b1 b2 hbase;unfold Oper.wp;simp[execOp,hop,resolve,invoke,builtin,hs,hx,hr,Result.andThen];exact hK v' w' r1 r2 r4
theorem GR(w:World)(a b c d:Value)(t:TypeId):∀j u,[a,b,c,d][j]?=some u->(w.alloc (.cells #[a,b,c,d] t)).cell? ((⟨w.heap.size,0,none⟩:Addr).add j)=some u:=by intro j u hu;rw[Addr.add_lit,Nat.zero_add,World.cell?_alloc_mark,<-hu];simp
def yY(S:Nat->Prop)(w:World):List (List Nd)->List Value->Prop
 |[],vs=>vs=[]
 |l::r,vs=>∃v rest,vs=v::rest/\Sl S w v l/\yY S w r rest
theorem yY.keep{S S':Nat->Prop}{w w':World}(hS:∀g,S g->S' g)(hw:∀g,S g->w'.heap[g]?=w.heap[g]?):∀(l:List (List Nd)) (vs:List Value),yY S w l vs->yY S' w' l vs
 |[],_,h=>h
 |_::r,_,⟨v,rest,h1,h2,h3⟩=>⟨v,rest,h1,h2.keep hS hw,yY.keep hS hw r rest h3⟩
theorem yY.snoc{S:Nat->Prop}{w:World}:∀(l:List (List Nd)) (vs:List Value) (_:yY S w l vs) (x:List Nd) (v:Value) (_:Sl S w v x),yY S w (l++[x]) (vs++[v])
 |[],vs,h,x,v,hv=>⟨v,[],by simp[show vs=[] from h],hv,rfl⟩
 |_::r,_,⟨v',rest,h1,h2,h3⟩,x,v,hv=>⟨v',rest++[v],by simp[h1],h2,yY.snoc r rest h3 x v hv⟩
theorem yY.len{S:Nat->Prop}{w:World}:∀(l:List (List Nd)) (vs:List Value),yY S w l vs->vs.length=l.length
 |[],vs,h=>by rw[show vs=[] from h];rfl
 |_::r,_,⟨_,rest,h1,_,h3⟩=>by rw[h1];simp[yY.len r rest h3]
theorem yY.at{S:Nat->Prop}{w:World}:∀(l:List (List Nd)) (vs:List Value) (_:yY S w l vs) (k:Nat) (hk:k<l.length),∃v,vs[k]?=some v/\Sl S w v l[k]
 |_::_,_,⟨v,rest,h1,h2,_⟩,0,_=>⟨v,by simp[h1],h2⟩
 |_::r,_,⟨_,rest,h1,_,h3⟩,k+1,hk=>by obtain⟨v,e,h⟩:=yY.at r rest h3 k (by simpa using hk);exact⟨v,by simp[h1,e],by simpa using h⟩
def Fo(w:World)(vo cv:Value)(b:Nat):Prop:=b<w.heap.size/\some b≠vo.ownBlock/\some b≠cv.ownBlock
structure nX(B base:Nat)(w:World)(vo cv:Value)(fin:List (List Nd))(cur:List Nd)(fvs cs:List Value):Prop where
 row:w.ownsRow base 59 1 vo (fin.length+1) (fvs++[cv])
 own:w.ownsRow base 134 4 cv cur.length cs
 kid:kY (fun b=>b<B) w cur cs
 fin:yY (Fo w vo cv) w fin fvs
theorem iL{w:World}{base e s n:Nat}{v:Value}{xs:List Value}(h:w.ownsRow base e s v n xs):∃a c,v=.slice a n c:=by
 rcases h.2 with⟨rfl,rfl⟩|⟨g,cap,cur,rfl,_⟩
 .exact⟨none,0,rfl⟩
 .exact⟨_,_,rfl⟩
theorem Bd{w:World}{base e1 e2 s1 s2 n1 n2:Nat}{v1 v2:Value}{x1 x2:List Value}(h1:w.ownsRow base e1 s1 v1 n1 x1)(h2:w.ownsRow base e2 s2 v2 n2 x2)(he:e1≠e2)(b:Nat)(hb:v1.ownBlock=some b):v2.ownBlock≠some b:=by
 rcases h1.2 with⟨rfl,_⟩|⟨g,cap,cur,rfl,_,hg,_⟩
 .cases hb
 .rcases h2.2 with⟨rfl,_⟩|⟨g',cap',cur',rfl,_,hg',_⟩
  .simp[Value.ownBlock]
  .simp only[Value.ownBlock,Option.some.injEq]at hb⊢;subst hb;intro e;injection e with e
   subst e;rw[hg]at hg';simp at hg';exact he hg'.2
section
variable {B base:Nat} {w w3:World} {vo cv:Value} {fin:List (List Nd)} {cur:List Nd} {fvs cs:List Value}
theorem nX.push(h:nX B base w vo cv fin cur fvs cs)(hB:B<=base){SL:Value}(n:Nd)(kv:Value)(hk:Sl (fun b=>b<B) w kv n.kids/\cZ n.t)(hbs:B<=w.heap.size)
  (hown:w3.ownsRow base 134 4 SL (cur.length+1) (cs++[.int .i64 n.t.kind,.string n.t.word,.string n.t.unit,kv])) (hrow:w3.ownsRow base 59 1 vo (fin.length+1) (fvs++[SL]))
  (hs:w.heap.size<=w3.heap.size) (hw:∀g,g<w.heap.size->some g≠cv.ownBlock->some g≠vo.ownBlock->w3.heap[g]?=w.heap[g]?) (hat:SL.ownBlock=cv.ownBlock\/∃b,SL.ownBlock=some b/\w.heap.size<=b):
  nX B base w3 vo SL fin (cur++[n]) fvs (cs++[.int .i64 n.t.kind,.string n.t.word,.string n.t.unit,kv]):=by
 have hlow:∀g,g<B->w3.heap[g]?=w.heap[g]?:=fun g hg=>hw g oo (fun e=>by have:=(h.own.lt g e.symm).1;omega) (fun e=>by have:=(h.row.lt g e.symm).1;omega);refine⟨hrow,by rw[List.length_append];exact hown,kY.snoc _ _ (h.kid.keep (fun _ hg=>hg) hlow) n kv ⟨hk.1.keep (fun _ hg=>hg) hlow,hk.2⟩,h.fin.keep (fun g hg=>⟨by have:=hg.1;omega,hg.2.1,?_⟩) fun g hg=>hw g hg.1 hg.2.2 hg.2.1⟩;rcases hat with e|⟨b,e,hb⟩
 .rw[e];exact hg.2.2
 .rw[e];intro e2;cases e2;have:=hg.1;omega
theorem nX.below(h:nX B base w vo cv fin cur fvs cs)(hbs:B<=w.heap.size)(hb:Below w.heap.size w w3):nX B base w3 vo cv fin cur fvs cs:=by
 have own:∀ {e s n:Nat}{v:Value}{xs:List Value},w.ownsRow base e s v n xs->w3.ownsRow base e s v n xs:=by
  intro e s n v xs h;refine⟨h.1,?_⟩;rcases h.2 with hn|⟨g,cap,cu,rfl,hbg,hgg,rest⟩
  .exact .inl hn
  .exact .inr ⟨g,cap,cu,rfl,hbg,by rw[hb.block g (Array.getElem?_eq_some_iff.1 hgg).1];exact hgg,rest⟩
 exact⟨own h.row,own h.own,h.kid.keep (fun _ hg=>hg) fun g hg=>hb.block g oo,h.fin.keep (fun g hg=>⟨by have:=hg.1;have:=hb.size;omega,hg.2⟩) fun g hg=>hb.block g hg.1⟩
theorem nX.apart(h:nX B base w vo cv fin cur fvs cs){go n co:Nat}(e:vo=.slice (some ⟨go,0,none⟩) n co):some go≠cv.ownBlock:=fun e2=>Bd h.row h.own (by decide) go (by rw[e];rfl) e2.symm
theorem KY(fvs:List Value)(k:Nat)(hk:fvs.length=k)(a b:Value):(fvs++[a]).set k b=fvs++[b]:=by subst hk;simp
theorem nX.grow(h:nX B base w vo cv fin cur fvs cs)(hB:B<=base)(hbs:B<=w.heap.size){go co:Nat}(e:vo=.slice (some ⟨go,0,none⟩) (fin.length+1) co)(n:Nd)(kv:Value)(hk:Sl (fun b=>b<B) w kv n.kids/\cZ n.t){W w4:World}{SL:Value}
  (hWs:w.heap.size<=W.heap.size) (hW:∀g,g<w.heap.size->W.heap[g]?=w.heap[g]?)
  (hown:w4.ownsRow base 134 4 SL (cur.length+1) (cs++[.int .i64 n.t.kind,.string n.t.word,.string n.t.unit,kv])) (hgr:W.grownBy w4 cv.ownBlock) (hat:SL.ownBlock=cv.ownBlock\/SL.ownBlock=some W.heap.size):
  nX B base (w4.setCell ⟨go,fin.length,none⟩ SL) vo SL fin (cur++[n]) fvs (cs++[.int .i64 n.t.kind,.string n.t.word,.string n.t.unit,kv]):=by
 have hap:=h.apart e;have hgo:=h.row.lt go (by rw[e];rfl);have Vo:W.ownsRow base 59 1 vo (fin.length+1) (fvs++[cv]):=by
  refine⟨h.row.1,?_⟩;rcases h.row.2 with hn|⟨g,cap,cu,hv,hbg,hgg,rest⟩
  .exact .inl hn
  .exact .inr ⟨g,cap,cu,hv,hbg,by rw[hW g (Array.getElem?_eq_some_iff.1 hgg).1];exact hgg,rest⟩
 have row4:=Vo.kept hgr (.inr (by rw[e];exact hap));have hl:=h.fin.len;have hs:=hgr.size;have hne:SL.ownBlock≠some go:=by
  rcases hat with e2|e2
  .rw[e2];exact hap.symm
  .rw[e2];intro e3;cases e3;omega
 subst e;obtain⟨s5,g5⟩:=row4.stored fin.length SL;refine h.push hB n kv hk hbs (hown.kept g5 (.inr hne)) (by rw[KY _ _ hl]at s5;exact s5) (by have:=g5.size;omega) (fun g hg h1 h2=>?_) ?_
 .rw[g5.block g oo h2,hgr.block g oo h1,hW g hg]
 .rcases hat with e2|e2
  .exact .inl e2
  .exact .inr ⟨_,e2,hWs⟩
theorem KZ(cs:List Value)(k:Nat)(hk:cs.length=k*4)(z0 z1 z2 z3 a b c d:Value):((((cs++[z0,z1,z2,z3]).set (k*4) a).set (k*4+1) b).set (k*4+2) c).set (k*4+3) d=cs++[a,b,c,d]:=by rw[<-hk];rw[List.set_append_right _ _ oo,List.set_append_right _ _ oo,List.set_append_right _ _ oo,List.set_append_right _ _ oo];simp
theorem vW{w:World}{base e s n:Nat}{v:Value}{xs:List Value}(h:w.ownsRow base e s v (n+1) xs):∃g c,v=.slice (some ⟨g,0,none⟩) (n+1) c:=by
 rcases h.2 with⟨_,hn⟩|⟨g,cap,cur,rfl,_⟩
 .omega
 .exact⟨_,_,rfl⟩
theorem Ee{w:World}{base e g n cap:Nat}{cs:List Value}{z0 z1 z2 z3:Value}(h:w.ownsRow base e 4 (.slice (some ⟨g,0,none⟩) (n+1) cap) (n+1) (cs++[z0,z1,z2,z3]))(hl:cs.length=n*4):
  w.cell? ⟨g,n*4,none⟩=some z0/\w.cell? ⟨g,n*4+1,none⟩=some z1/\w.cell? ⟨g,n*4+2,none⟩=some z2/\w.cell? ⟨g,n*4+3,none⟩=some z3:=by
 refine⟨?_,?_,?_,?_⟩;all_goals
  rw[h.cellAt _ oo,List.getElem?_append_right oo];simp[hl]
theorem nX.acD(h:nX B base w vo cv fin cur fvs cs)(hB:B<=base)(hbs:B<=w.heap.size){go co:Nat}(e:vo=.slice (some ⟨go,0,none⟩) (fin.length+1) co)(n:Nd)(kv:Value)(hk:Sl (fun b=>b<B) w kv n.kids/\cZ n.t){W w4:World}{gv vc:Nat}{z0 z1 z2 z3:Value}
  (hWs:w.heap.size<=W.heap.size) (hW:∀g,g<w.heap.size->W.heap[g]?=w.heap[g]?)
  (hown:w4.ownsRow base 134 4 (.slice (some ⟨gv,0,none⟩) (cur.length+1) vc) (cur.length+1) (cs++[z0,z1,z2,z3])) (hgr:W.grownBy w4 cv.ownBlock) (hat:some gv=cv.ownBlock\/some gv=some W.heap.size):
  nX B base (((((w4.setCell ⟨go,fin.length,none⟩ (.slice (some ⟨gv,0,none⟩) (cur.length+1) vc)).setCell ⟨gv,cur.length*4,none⟩ (.int .i64 n.t.kind)).setCell ⟨gv,cur.length*4+1,none⟩ (.string n.t.word)).setCell ⟨gv,cur.length*4+2,none⟩ (.string n.t.unit)).setCell ⟨gv,cur.length*4+3,none⟩ kv)
   vo (.slice (some ⟨gv,0,none⟩) (cur.length+1) vc) fin (cur++[n]) fvs (cs++[.int .i64 n.t.kind,.string n.t.word,.string n.t.unit,kv]):=by
 have hap:=h.apart e;have hgo:=h.row.lt go (by rw[e];rfl);have Vo:W.ownsRow base 59 1 vo (fin.length+1) (fvs++[cv]):=by
  refine⟨h.row.1,?_⟩;rcases h.row.2 with hn|⟨g,cap,cu,hv,hbg,hgg,rest⟩
  .exact .inl hn
  .exact .inr ⟨g,cap,cu,hv,hbg,by rw[hW g (Array.getElem?_eq_some_iff.1 hgg).1];exact hgg,rest⟩
 have row4:=Vo.kept hgr (.inr (by rw[e];exact hap));have hl:=h.fin.len;have hcl:cs.length=cur.length*4:=h.own.1;have hs:=hgr.size;have hne:gv≠go:=by
  rintro rfl;rcases hat with e2|e2
  .exact hap e2
  .cases e2;omega
 subst e;obtain⟨s5,g5⟩:=row4.stored fin.length (.slice (some ⟨gv,0,none⟩) (cur.length+1) vc);have o5:=hown.kept g5 (.inr (by simp[Value.ownBlock];exact hne));obtain⟨o6,g6⟩:=o5.stored (cur.length*4) (.int .i64 n.t.kind);obtain⟨o7,g7⟩:=o6.stored (cur.length*4+1) (.string n.t.word);obtain⟨o8,g8⟩:=o7.stored (cur.length*4+2) (.string n.t.unit);obtain⟨o9,g9⟩:=o8.stored (cur.length*4+3) kv;rw[KZ _ _ hcl]at o9;rw[KY _ _ hl]at s5;have hro:Value.ownBlock (.slice (some ⟨go,0,none⟩) (fin.length+1) co)≠some gv:=by simp[Value.ownBlock];exact fun e=>hne e.symm
 have s9:=(((s5.kept g6 (.inr hro)).kept g7 (.inr hro)).kept g8 (.inr hro)).kept g9 (.inr hro);have hz5:=g5.size;have hz6:=g6.size;have hz7:=g7.size;have hz8:=g8.size;have hz9:=g9.size;refine h.push hB n kv hk hbs o9 s9 oo (fun g hg h1 h2=>?_) ?_
 .have hgg:some g≠some gv:=by
   rcases hat with e2|e2
   .rw[e2];exact h1
   .cases e2;intro e3;cases e3;omega
  rw[g9.block g oo hgg,g8.block g oo hgg,g7.block g oo hgg,g6.block g oo hgg,g5.block g oo h2,hgr.block g oo h1,hW g hg]
 .rcases hat with e2|e2
  .exact .inl e2
  .cases e2;exact .inr ⟨_,rfl,hWs⟩
theorem nX.cut(h:nX B base w vo cv fin cur fvs cs)(hB:B<=base)(h6:cur.length<=600)(hbs:B<=w.heap.size){vo2:Value}
  (hrow':w3.ownsRow base 59 1 vo2 (fin.length+1+1) (fvs++[cv,.slice none 0 0])) (hs:w.heap.size<=w3.heap.size) (hw:∀g,g<w.heap.size->some g≠vo.ownBlock->w3.heap[g]?=w.heap[g]?) (hat:vo2.ownBlock=vo.ownBlock\/∃b,vo2.ownBlock=some b/\w.heap.size<=b):
  nX B base w3 vo2 (.slice none 0 0) (fin++[cur]) [] (fvs++[cv]) []:=by
 have hrow:w3.ownsRow base 59 1 vo2 (fin.length+1+1) (fvs++[cv]++[.slice none 0 0]):=by simpa using hrow'
 have hne:∀g,g<w.heap.size->some g≠vo.ownBlock->some g≠vo2.ownBlock:=by
  intro g hg h1;rcases hat with e|⟨b,e,hb⟩
  .rw[e];exact h1
  .rw[e];intro e2;cases e2;omega
 have hlow:∀g,g<B->w3.heap[g]?=w.heap[g]?:=fun g hg=>hw g oo (fun e=>by have:=(h.row.lt g e.symm).1;omega);refine⟨by rw[List.length_append];exact hrow,World.ownsRow_nil _ _ _ _,rfl,yY.snoc _ _ (h.fin.keep (fun g hg=>⟨by have:=hg.1;omega,hne g hg.1 hg.2.1,by simp[Value.ownBlock]⟩) fun g hg=>hw g hg.1 hg.2.1) cur cv ?_⟩;have h3:kY (Fo w3 vo2 (.slice none 0 0)) w3 cur cs:=h.kid.keep (fun g hg=>⟨oo,hne g oo (fun e=>by have:=(h.row.lt g e.symm).1;omega),by simp[Value.ownBlock]⟩) hlow;rcases h.own.2 with⟨e1,hn⟩|⟨g,cap,cu,e1,hbg,hg,hnc,hrest⟩
 .have:cur=[]:=List.eq_nil_of_length_eq_zero hn;rw[e1,this];exact Sl.nil _ _
 .have hgl:g<w.heap.size:=(Array.getElem?_eq_some_iff.1 hg).1;have hgv:some g≠vo.ownBlock:=fun e=>Bd h.own h.row (by decide) g (by rw[e1];rfl) e.symm;rw[e1];refine⟨_,cap,rfl,⟨hnc,h6⟩,fun _=>⟨g,0,rfl,kY.lies ⟨oo,hne g hgl hgv,by simp[Value.ownBlock]⟩ cur cs 0 h3 fun j u hu=>?_⟩⟩;have:=h.own.cells (g:=g) (by rw[e1];rfl) j u hu;rw[Addr.add_lit,Nat.zero_add]at this;rw[Nat.zero_add,<-this];exact World.cell?_of_block (w:=w) (hw g hgl hgv)
theorem lZ.below{n:Nd}{g o:Nat}{kv:Value}(h:lZ (fun b=>b<B) w n g o kv)(hb:Below B w w3):lZ (fun b=>b<B) w3 n g o kv:=by have hcell:∀q,w3.cell? ⟨g,q,none⟩=w.cell? ⟨g,q,none⟩:=fun q=>hb.cell (show g<B from h.s);exact⟨h.s,by rw[hcell];exact h.c0,by rw[hcell];exact h.c1,by rw[hcell];exact h.c2,by rw[hcell];exact h.c3,h.k.below hb nl,h.ok⟩
def SSl(w:World)(v:Value)(ls:List (List Nd)):Prop:=∃g cap,v=.slice (some ⟨g,0,none⟩) ls.length cap/\g<w.heap.size/\∀k (hk:k<ls.length),∃u,w.cell? ⟨g,k,none⟩=some u/\Sl (fun b=>b<w.heap.size) w u ls[k]
theorem nX.done(h:nX B base w vo cv fin cur fvs cs)(hbs:B<=w.heap.size)(h6:cur.length<=600):SSl w vo (fin++[cur]):=by
 rcases h.row.2 with⟨_,hn⟩|⟨g,cap,cu,e1,hbg,hg,hnc,hrest⟩
 .exact absurd hn (by simp)
 .have hl:=h.fin.len;have hcur:Sl (fun b=>b<w.heap.size) w cv cur:=by
   have h3:kY (fun b=>b<w.heap.size) w cur cs:=h.kid.keep (fun g hg=>by omega) fun _ _=>rfl;rcases h.own.2 with⟨e2,hn⟩|⟨g2,cap2,cu2,e2,afd,hg2,ad4,_⟩
   .have:cur=[]:=List.eq_nil_of_length_eq_zero hn;rw[e2,this];exact Sl.nil _ _
   .have hgl:g2<w.heap.size:=(Array.getElem?_eq_some_iff.1 hg2).1;rw[e2];refine⟨_,cap2,rfl,⟨ad4,h6⟩,fun _=>⟨g2,0,rfl,kY.lies (S:=fun b=>b<w.heap.size) hgl cur cs 0 h3 fun j u hu=>?_⟩⟩;have:=h.own.cells (g:=g2) (by rw[e2];rfl) j u hu;rw[Addr.add_lit,Nat.zero_add]at this;rw[Nat.zero_add];exact this
  have hall:yY (fun b=>b<w.heap.size) w (fin++[cur]) (fvs++[cv]):=yY.snoc _ _ (h.fin.keep (fun g hg=>hg.1) fun _ _=>rfl) cur cv hcur;refine⟨g,cap,by rw[e1];simp,(Array.getElem?_eq_some_iff.1 hg).1,fun k hk=>?_⟩;obtain⟨u,hu,hs⟩:=hall.at _ _ k hk;refine⟨u,?_,hs⟩;have:=h.row.cells (g:=g) (by rw[e1];rfl) k u hu;rw[Addr.add_lit,Nat.zero_add]at this;exact this
end
end
end Go.Proofs.YtlliliddljkbfaaGreatDoor
