import Derived.Test.YtlliliddljkbfaaGreatC4
set_option maxHeartbeats 64000000
set_option maxRecDepth 100000
namespace Go.Proofs.YtlliliddljkbfaaGreat
open Go.Proofs.Tryz (prog)
open Go.RowKit Sp
section
theorem af7(b:Nat)(w:WD):Calls prog 252 #[.int .i64 (sG b)] w fun e w'=>e=.returned (.string (tV b))/\w'=w:=by
 unfold sG tV;by_cases h1:b=32
 .rw[if_pos h1,if_pos h1];go_in;go_wp2_with fail;go_ret;exact⟨rfl,rfl⟩
 rw[if_neg h1,if_neg h1];by_cases h2:b=62
 .rw[if_pos h2,if_pos (.inl h2)];subst h2;clear h1;go_in;go_wp2_with fail;go_ret;exact⟨rfl,rfl⟩
 rw[if_neg h2];by_cases h3:b=43
 .rw[if_pos h3,if_pos (.inr (.inl h3))];subst h3;clear h1 h2;go_in;go_wp2_with fail;go_ret;exact⟨rfl,rfl⟩
 rw[if_neg h3];by_cases h4:b=126
 .rw[if_pos h4,if_pos (.inr (.inr h4))];subst h4;clear h1 h2 h3;go_in;go_wp2_with fail;go_ret;exact⟨rfl,rfl⟩
 rw[if_neg h4,if_neg (by rintro (h|h|h)<;>omega)];clear h1 h2 h3 h4;go_in;go_wp2_with fail;go_ret;exact⟨rfl,rfl⟩
theorem af8(w:WD):Calls prog 333 #[.agg #[]] w fun e w'=>e=.returned (.string (b1 42))/\Below w.heap.size w w':=by go_in;go_wp2_with fail;go_ret;exact⟨rfl,by first|exact Below.refl _ _|exact bf _ _⟩
section
variable (nm:BY) (w:WD)
theorem ai1(hs:nm.size<=4000000):Calls prog 327 #[.agg #[.string nm]] w fun e w'=>e=.returned (.string (dP nm))/\Below w.heap.size w w':=by have B1:Hid (Below w.heap.size w (w.alloc (.cells #[.string nm] 309))):=bf _ _;go_in;go_wp2_with fail;generalize w.alloc (.cells #[.string nm] 309)=w2 at *;refine pmb (oW nm _ hs) fun w3 hb3=>?_;have B3:=hid (AC B1.o hb3);clear hb3;go_wp2_with fail;go_ret;exact⟨rfl,B3.o⟩
theorem akX(hs:nm.size<=4000000):Calls prog 336 #[.agg #[.string nm]] w fun e w'=>e=.returned (.string (b1 35++dP nm))/\Below w.heap.size w w':=by
 have B1:Hid (Below w.heap.size w (w.alloc (.cells #[.string nm] 332))):=bf _ _;obtain⟨o,Ho⟩:=Nm (dP nm);have HV:Hid (aG [⟨#[35]⟩,o]=b1 35++dP nm):=by show _=_;rw[Ho.o];simp[aG,b1]
 have hsz:o.size<=4*nm.size:=by rw[<-Ho.o];exact fQ nm
 go_in;go_wp2_with fail;generalize w.alloc (.cells #[.string nm] 332)=w2 at *;refine(oW nm _ hs).mono ?_;rw[Ho.o];rintro e w3 ⟨rfl,hb3⟩;have B3:=hid (AC B1.o hb3);have hs3:=B3.o.size;clear hb3;go_wp2_with fail;refine pmb (dQ [⟨#[35]⟩,o] w3.heap.size _ _ (rw2 w3 ⟨#[35]⟩ o) Ab (by show 1+(o.size+0)<=_;omega)) fun w5 hb5=>?_;have B5:Hid (Below w.heap.size w w5):=(B3.o.alloc hs3 _).trans (hb5.mono An);clear hb5;go_wp2_with fail;go_ret;exact⟨mg HV.o,B5.o⟩
theorem acr(hs:nm.size<=4000000):Calls prog 340 #[.agg #[.string nm]] w fun e w'=>e=.returned (.string (b1 46++dP nm))/\Below w.heap.size w w':=by
 have B1:Hid (Below w.heap.size w (w.alloc (.cells #[.string nm] 333))):=bf _ _;obtain⟨o,Ho⟩:=Nm (dP nm);have HV:Hid (aG [⟨#[46]⟩,o]=b1 46++dP nm):=by show _=_;rw[Ho.o];simp[aG,b1]
 have hsz:o.size<=4*nm.size:=by rw[<-Ho.o];exact fQ nm
 go_in;go_wp2_with fail;generalize w.alloc (.cells #[.string nm] 333)=w2 at *;refine(oW nm _ hs).mono ?_;rw[Ho.o];rintro e w3 ⟨rfl,hb3⟩;have B3:=hid (AC B1.o hb3);have hs3:=B3.o.size;clear hb3;go_wp2_with fail;refine pmb (dQ [⟨#[46]⟩,o] w3.heap.size _ _ (rw2 w3 ⟨#[46]⟩ o) Ab (by show 1+(o.size+0)<=_;omega)) fun w5 hb5=>?_;have B5:Hid (Below w.heap.size w w5):=(B3.o.alloc hs3 _).trans (hb5.mono An);clear hb5;go_wp2_with fail;go_ret;exact⟨mg HV.o,B5.o⟩
theorem acs(hs:nm.size<=4000000):Calls prog 358 #[.agg #[.string nm]] w fun e w'=>e=.returned (.string (b1 58++nm))/\Below w.heap.size w w':=by
 have B1:Hid (Below w.heap.size w (w.alloc (.cells #[.string nm] 343))):=bf _ _;have V1:Hid (bU (w.alloc (.cells #[.string nm] 343)) w.heap.size (.string nm) 343):=bU.new _ _ _;have HV:Hid (aG [⟨#[58]⟩,nm]=b1 58++nm):=by show _=_;simp[aG,b1]
 go_in;go_upto_region 1 with fail
 generalize w.alloc (.cells #[.string nm] 343)=w2 at *;have hs2:=B1.o.size;have c0:=V1.o.c;go_wp2_with fail;refine pmb (dQ [⟨#[58]⟩,nm] w2.heap.size _ _ (rw2 w2 ⟨#[58]⟩ nm) Ab (by show 1+(nm.size+0)<=_;omega)) fun w5 hb5=>?_;have B5:Hid (Below w.heap.size w w5):=(B1.o.alloc hs2 _).trans (hb5.mono An);clear hb5;go_wp2_with fail;go_ret;exact⟨mg HV.o,B5.o⟩
end
def A3(w:WD)(b:Nat)(x0 x1 x2:Av):Prop:=w.heap[b]?=some (.cells #[x0,x1,x2] 341 (0,0))
theorem A3.cs{w:WD}{b:Nat}{x0 x1 x2:Av}(h:A3 w b x0 x1 x2):w.cell? ⟨b,0,none⟩=some x0/\w.cell? ⟨b,1,none⟩=some x1/\w.cell? ⟨b,2,none⟩=some x2:=by have h':w.heap[b]?=_:=h;refine⟨?_,?_,?_⟩<;>(unfold World.cell?;rw[h'];rfl)
theorem A3.lt{w:WD}{b:Nat}{x0 x1 x2:Av}(h:A3 w b x0 x1 x2):b<w.heap.size:=(Ay h)
theorem A3.below{w w':WD}{b:Nat}{x0 x1 x2:Av}(h:A3 w b x0 x1 x2)(hb:Below w.heap.size w w'):A3 w' b x0 x1 x2:=by show _=_;rw[hb.block b h.lt];exact h
theorem A3.new(w:WD)(x0 x1 x2:Av):A3 (w.alloc (.cells #[x0,x1,x2] 341)) w.heap.size x0 x1 x2:=heap_alloc_new w _
theorem af9(nm how v:BY)(w:WD)(hs:nm.size<=4000000)(hh:how.size<=10)(hv:v.size<=4000000):Calls prog 344 #[.agg #[.string nm,.string how,.string v]] w fun e w'=>e=.returned (.string (zN nm how v))/\Below w.heap.size w w':=by
 obtain⟨o,Ho⟩:=Nm (dP nm);have hsz:o.size<=4*nm.size:=by rw[<-Ho.o];exact fQ nm
 by_cases he:how.toList=[]
 .have hn:how=aA:=by
   have:=ay how [];rw[he]at this;exact of_decide_eq_true this.symm
  have HV:Hid (aG [⟨#[91]⟩,o,⟨#[93]⟩]=zN nm how v):=by show _=_;unfold zN;rw[if_pos hn,Ho.o];simp[aG,b1]
  clear hn;have B1:Hid (Below w.heap.size w (w.alloc (.cells #[.string nm,.string how,.string v] 341))):=bf _ _;go_in;go_wp2_with fail;generalize w.alloc (.cells #[.string nm,.string how,.string v] 341)=w2 at *;refine(oW nm _ hs).mono ?_;rw[Ho.o];rintro e w3 ⟨rfl,hb3⟩;have B3:=hid (AC B1.o hb3);have hs3:=B3.o.size;clear hb3;go_wp2_with fail;refine pmb (dQ [⟨#[91]⟩,o,⟨#[93]⟩] w3.heap.size _ _ (row3 w3 ⟨#[91]⟩ o ⟨#[93]⟩) Ab (by show 1+(o.size+(1+0))<=_;omega)) fun w5 hb5=>?_;have B5:Hid (Below w.heap.size w w5):=(B3.o.alloc hs3 _).trans (hb5.mono An);clear hb5;go_wp2_with fail;go_ret;exact⟨mg HV.o,B5.o⟩
 .have hn:¬how=aA:=fun e=>he (by rw[e,fC];rfl);have hie:how.toList.isEmpty=false:=by cases hq:how.toList with|nil=>exact absurd hq he|cons _ _=>rfl
  have hib:(how.toList==[])=false:=by cases hq:how.toList with|nil=>exact absurd hq he|cons _ _=>rfl
  obtain⟨tx,Gv⟩:=Nm (xG v);have hst:tx.size<=4*v.size+2:=by rw[<-Gv.o];exact Au v
  have HV:Hid (aG [⟨#[91]⟩,o,how,tx,⟨#[93]⟩]=zN nm how v):=by show _=_;unfold zN;rw[if_neg hn,Ho.o,Gv.o];simp[aG,b1]
  clear hn;have B2:Hid (Below w.heap.size w (w.alloc (.cells #[.string nm,.string how,.string v] 341)).drew):=xJ _ _;have A2:Hid (A3 (w.alloc (.cells #[.string nm,.string how,.string v] 341)).drew w.heap.size (.string nm) (.string how) (.string v)):=A3.new _ _ _ _;go_in;go_wp2_with fail;refine wp_region_any Ao ?_;change wpAny _ _ _ _ _ _ _ (World.drew _);generalize(w.alloc (.cells #[.string nm,.string how,.string v] 341)).drew=w2 at *;have hs2:=B2.o.size;refine wpAny_of_held (S:=fun wx=>A3 wx w.heap.size (.string nm) (.string how) (.string v)) _ _ _ _ ?_;refine dH 0 rfl A2.o (by intro w hSw;obtain⟨a0,a1,a2⟩:=hSw.cs;exact gs) ?_;refine dH 1 rfl A2.o (by intro w hSw;obtain⟨a0,a1,a2⟩:=hSw.cs;exact gs) ?_
  refine dH 3 rfl A2.o (by intro w hSw;obtain⟨a0,a1,a2⟩:=hSw.cs;exact gs) ?_;refine dH 4 rfl A2.o (by intro w hSw;obtain⟨a0,a1,a2⟩:=hSw.cs;exact gs) ?_;refine dH 5 rfl A2.o (by intro w hSw;obtain⟨a0,a1,a2⟩:=hSw.cs;exact gs) ?_;refine dH 6 rfl A2.o (by intro w hSw;obtain⟨a0,a1,a2⟩:=hSw.cs;exact gs) ?_;refine iW 2 fun K hK=>?_;go_simp;refine(oW nm _ hs).mono ?_;rw[Ho.o];rintro e w3 ⟨rfl,hb3⟩;have B3:=hid (B2.o.trans (hb3.mono hs2));have A4:=hid (A2.o.below hb3);have hs3:=B3.o.size;clear hb3;refine hK.o _ _ A4.o (fun _=>?_);clear hK K;refine iW 7 fun K hK=>?_;go_simp;refine(aci v _ hv).mono ?_;rw[Gv.o];rintro e w4 ⟨rfl,hb4⟩
  have B4:=hid (B3.o.trans (hb4.mono hs3));have A5:=hid (A4.o.below hb4);have hs4:=B4.o.size;clear hb4;refine hK.o _ _ A5.o (fun _=>?_);clear hK K;refine iW 8 fun K hK=>?_;go_simp;refine hK.o _ _ (A5.o.below (bf _ _)) (fun _=>?_);clear hK K;refine iW 9 fun K hK=>?_;go_simp;refine pmb (dQ [⟨#[91]⟩,o,how,tx,⟨#[93]⟩] w4.heap.size _ _ (amn w4 ⟨#[91]⟩ o how tx ⟨#[93]⟩) Ab (by show 1+(o.size+(how.size+(tx.size+(1+0))))<=_;omega)) fun w5 hb5=>?_;have B5:Hid (Below w.heap.size w w5):=(B4.o.alloc hs4 _).trans (hb5.mono An);have A6:Hid (A3 w5 w.heap.size (.string nm) (.string how) (.string v)):=(A5.o.below (bf _ _)).below hb5;clear hb5;refine hK.o _ _ A6.o (fun _=>?_);clear hK K;refine iW 10 fun K hK=>?_;go_simp
  refine hK.o _ _ (A6.o) (fun _=>?_);clear hK K;refine wpAnyH_done Ao ?_ _;go_wp2_with fail;go_ret;exact⟨mg HV.o,B5.o⟩
end
def jD[bV](w:WD):Prop:=∀(n:Nat) (w':WD),n<=999->Below w.heap.size w w'->Calls prog 376 #[.int .i64 (n:Int)] w' fun e w''=>e=.returned (.string (H7 n))/\Below w'.heap.size w' w''
theorem jD.below[bV]{w w':WD}{g:Nat}(h:jD w)(hb:Below g w w')(hg:w.heap.size<=g):jD w':=fun n w2 hn hb2=>h n w2 hn ((hb.mono hg).trans (hb2.mono (Nat.le_trans nl hb.size)))
theorem Yx(x:BY):aG [⟨#[58,110,116,104,45,99,104,105,108,100,40]⟩,x,⟨#[41]⟩]=b1 58++(nG++(b1 40++(x++b1 41))):=by
 have e:b1 58++(nG++b1 40)=⟨#[58,110,116,104,45,99,104,105,108,100,40]⟩:=by decide
 show⟨#[58,110,116,104,45,99,104,105,108,100,40]⟩++(x++(b1 41++aG []))=_;rw[<-e,show aG []=aA from rfl,mO];simp only[ByteArray.append_assoc]
theorem aga(x:BY):aG [⟨#[58,110,111,116,40]⟩,x,⟨#[41]⟩]=b1 58++(nD++(b1 40++(x++b1 41))):=by
 have e:b1 58++(nD++b1 40)=⟨#[58,110,111,116,40]⟩:=by decide
 show⟨#[58,110,111,116,40]⟩++(x++(b1 41++aG []))=_;rw[<-e,show aG []=aA from rfl,mO];simp only[ByteArray.append_assoc]
theorem ai2(x:BY):aG [⟨#[58,105,115,40]⟩,x,⟨#[41]⟩]=b1 58++(DY++(b1 40++(x++b1 41))):=by
 have e:b1 58++(DY++b1 40)=⟨#[58,105,115,40]⟩:=by decide
 show⟨#[58,105,115,40]⟩++(x++(b1 41++aG []))=_;rw[<-e,show aG []=aA from rfl,mO];simp only[ByteArray.append_assoc]
def P2(w:WD)(b:Nat)(x0 x1:Av):Prop:=w.heap[b]?=some (.cells #[x0,x1] 351 (0,0))
theorem P2.cs{w:WD}{b:Nat}{x0 x1:Av}(h:P2 w b x0 x1):w.cell? ⟨b,0,none⟩=some x0/\w.cell? ⟨b,1,none⟩=some x1:=by have h':w.heap[b]?=_:=h;refine⟨?_,?_⟩<;>(unfold World.cell?;rw[h'];rfl)
theorem P2.new(w:WD)(x0 x1:Av):P2 (w.alloc (.cells #[x0,x1] 351)) w.heap.size x0 x1:=heap_alloc_new w _
theorem QJ(nm:BY)(w:WD)(hne:(nm.toList==[])=false)(hs:nm.size<=10):Calls prog 374 #[.agg #[.string nm,.int .i64 0]] w fun e w'=>e=.returned (.string (b1 58++(nG++(b1 40++(nm++b1 41)))))/\Below w.heap.size w w':=by
 have B1:Hid (Below w.heap.size w (w.alloc (.cells #[.string nm,.int .i64 0] 351))):=bf _ _;have V1:Hid (P2 (w.alloc (.cells #[.string nm,.int .i64 0] 351)) w.heap.size (.string nm) (.int .i64 0)):=P2.new _ _ _;have HV:Hid (aG [⟨#[58,110,116,104,45,99,104,105,108,100,40]⟩,nm,⟨#[41]⟩]=b1 58++(nG++(b1 40++(nm++b1 41)))):=Yx nm;have hie:nm.toList.isEmpty=false:=by cases hq:nm.toList with|nil=>rw[hq]at hne;cases hne|cons _ _=>rfl
 go_in;go_upto_region 1 with fail
 generalize w.alloc (.cells #[.string nm,.int .i64 0] 351)=w2 at *;have hs2:=B1.o.size;obtain⟨c0,c1⟩:=V1.o.cs;go_wp2_with fail;refine pmb (dQ [⟨#[58,110,116,104,45,99,104,105,108,100,40]⟩,nm,⟨#[41]⟩] w2.heap.size _ _ (row3 w2 _ nm _) Ab (by show 11+(nm.size+(1+0))<=_;omega)) fun w5 hb5=>?_;have B5:Hid (Below w.heap.size w w5):=(B1.o.alloc hs2 _).trans (hb5.mono An);clear hb5;go_wp2_with fail;go_ret;exact⟨mg HV.o,B5.o⟩
theorem acu[bV](n:Nat)(w:WD)(hn:n<=999)(hI:jD w)(hd:(H7 n).size<=100):Calls prog 374 #[.agg #[.string ⟨#[]⟩,.int .i64 (n:Int)]] w fun e w'=>e=.returned (.string (b1 58++(nG++(b1 40++(H7 n++b1 41)))))/\Below w.heap.size w w':=by
 have B1:Hid (Below w.heap.size w (w.alloc (.cells #[.string ⟨#[]⟩,.int .i64 (n:Int)] 351))):=bf _ _;have V1:Hid (P2 (w.alloc (.cells #[.string ⟨#[]⟩,.int .i64 (n:Int)] 351)) w.heap.size (.string ⟨#[]⟩) (.int .i64 (n:Int))):=P2.new _ _ _;obtain⟨d,Hd⟩:=Nm (H7 n);have HI:Hid (Calls prog 376 #[.int .i64 (n:Int)] (w.alloc (.cells #[.string ⟨#[]⟩,.int .i64 (n:Int)] 351)) fun e w''=>e=.returned (.string d)/\Below (w.alloc (.cells #[.string ⟨#[]⟩,.int .i64 (n:Int)] 351)).heap.size (w.alloc (.cells #[.string ⟨#[]⟩,.int .i64 (n:Int)] 351)) w''):=by have:=hI n _ hn B1.o;rwa[Hd.o]at this
 rw[Hd.o]at hd;rw[Hd.o];have HV:Hid (aG [⟨#[58,110,116,104,45,99,104,105,108,100,40]⟩,d,⟨#[41]⟩]=b1 58++(nG++(b1 40++(d++b1 41)))):=Yx d;clear hI;go_in;go_upto_region 1 with fail
 generalize w.alloc (.cells #[.string ⟨#[]⟩,.int .i64 (n:Int)] 351)=w2 at *;have hs2:=B1.o.size;obtain⟨c0,c1⟩:=V1.o.cs;go_wp2_with fail;refine HI.o.mono ?_;rintro e w3 ⟨rfl,hb3⟩;have B3:=hid (B1.o.trans (hb3.mono hs2));have hs3:=B3.o.size;clear hb3 HI c0 c1;go_wp2_with fail;refine pmb (dQ [⟨#[58,110,116,104,45,99,104,105,108,100,40]⟩,d,⟨#[41]⟩] w3.heap.size _ _ (row3 w3 _ d _) Ab (by show 11+(d.size+(1+0))<=_;omega)) fun w5 hb5=>?_;have B5:Hid (Below w.heap.size w w5):=(B3.o.alloc hs3 _).trans (hb5.mono An);clear hb5;go_wp2_with fail;go_ret;exact⟨mg HV.o,B5.o⟩
theorem ai3(la:Option Addr)(ll lc:Nat)(o:BY)(w:WD)(ho:o.size<=549755813888)
  (hL:∀w',Below w.heap.size w w'->Calls prog 324 #[.slice la ll lc] w' fun e w''=>e=.returned (.string o)/\Below w'.heap.size w' w''):
  Calls prog 367 #[.agg #[.slice la ll lc]] w fun e w'=>e=.returned (.string (b1 58++(nD++(b1 40++(o++b1 41)))))/\Below w.heap.size w w':=by
 have B1:Hid (Below w.heap.size w (w.alloc (.cells #[.slice la ll lc] 345))):=bf _ _;have HL:Hid (Calls prog 324 #[.slice la ll lc] (w.alloc (.cells #[.slice la ll lc] 345)) fun e w''=>e=.returned (.string o)/\Below (w.alloc (.cells #[.slice la ll lc] 345)).heap.size (w.alloc (.cells #[.slice la ll lc] 345)) w''):=hL _ B1.o;have HV:Hid (aG [⟨#[58,110,111,116,40]⟩,o,⟨#[41]⟩]=b1 58++(nD++(b1 40++(o++b1 41)))):=aga o;clear hL;go_in;go_wp2_with fail;generalize w.alloc (.cells #[.slice la ll lc] 345)=w2 at *;have hs2:=B1.o.size;refine HL.o.mono ?_;rintro e w3 ⟨rfl,hb3⟩;have B3:=hid (B1.o.trans (hb3.mono hs2));have hs3:=B3.o.size;clear hb3 HL;go_wp2_with fail;refine(dQ [⟨#[58,110,111,116,40]⟩,o,⟨#[41]⟩] w3.heap.size _ _ (row3 w3 _ o _) Ab (by show 5+(o.size+(1+0))<=_;omega)).mono ?_
 rintro e w5 ⟨rfl,hb5⟩;have B5:Hid (Below w.heap.size w w5):=(B3.o.alloc hs3 _).trans (hb5.mono An);clear hb5;go_wp2_with fail;go_ret;exact⟨mg HV.o,B5.o⟩
theorem akY(la:Option Addr)(ll lc:Nat)(o:BY)(w:WD)(ho:o.size<=549755813888)
  (hL:∀w',Below w.heap.size w w'->Calls prog 324 #[.slice la ll lc] w' fun e w''=>e=.returned (.string o)/\Below w'.heap.size w' w''):
  Calls prog 371 #[.agg #[.slice la ll lc]] w fun e w'=>e=.returned (.string (b1 58++(DY++(b1 40++(o++b1 41)))))/\Below w.heap.size w w':=by
 have B1:Hid (Below w.heap.size w (w.alloc (.cells #[.slice la ll lc] 346))):=bf _ _;have HL:Hid (Calls prog 324 #[.slice la ll lc] (w.alloc (.cells #[.slice la ll lc] 346)) fun e w''=>e=.returned (.string o)/\Below (w.alloc (.cells #[.slice la ll lc] 346)).heap.size (w.alloc (.cells #[.slice la ll lc] 346)) w''):=hL _ B1.o;have HV:Hid (aG [⟨#[58,105,115,40]⟩,o,⟨#[41]⟩]=b1 58++(DY++(b1 40++(o++b1 41)))):=ai2 o;clear hL;go_in;go_wp2_with fail;generalize w.alloc (.cells #[.slice la ll lc] 346)=w2 at *;have hs2:=B1.o.size;refine HL.o.mono ?_;rintro e w3 ⟨rfl,hb3⟩;have B3:=hid (B1.o.trans (hb3.mono hs2));have hs3:=B3.o.size;clear hb3 HL;go_wp2_with fail;refine(dQ [⟨#[58,105,115,40]⟩,o,⟨#[41]⟩] w3.heap.size _ _ (row3 w3 _ o _) Ab (by show 4+(o.size+(1+0))<=_;omega)).mono ?_
 rintro e w5 ⟨rfl,hb5⟩;have B5:Hid (Below w.heap.size w w5):=(B3.o.alloc hs3 _).trans (hb5.mono An);clear hb5;go_wp2_with fail;go_ret;exact⟨mg HV.o,B5.o⟩
end Go.Proofs.YtlliliddljkbfaaGreat
namespace Go.Proofs.YtlliliddljkbfaaGreat.Sp
structure Par(p:aI):Prop where
 lt:∀e,e<p.length->parentOf p e<e
 root:∀e,e<p.length->parentOf p e<0->e=0
theorem Fv(p:aI)(q:Int)(k:Nat):gJ p q (k+1)=if parentOf p k=q then gJ p q k++[k] else gJ p q k:=rfl
theorem uh(p:aI)(q:Int):∀(k x:Nat),x∈gJ p q k->x<k
 |k+1,x,h=>by
  unfold gJ at h;split at h
  .rcases List.mem_append.1 h with h|h
   .have:=uh p q k x h;omega
   .simp at h;omega
  .have:=uh p q k x h;omega
theorem AB(p:aI)(q:Int):∀(k:Nat),(gJ p q k).length<=k
 |0=>by simp[gJ]
 |k+1=>by have:=AB p q k;unfold gJ;split<;>simp<;>omega
theorem ng{p:aI}{e:Nat}(h:e<p.length):parentOf p e=p[e].parent:=by unfold parentOf;rw[List.getElem?_eq_getElem h];rfl
theorem xM(s:BY):∀f i acc,(iK s f i acc).1.size<=acc.size+f/\acc.size<=(iK s f i acc).1.size
 |0,_,acc=>by simp[iK]
 |f+1,i,acc=>by
  unfold iK;by_cases h1:lX (pk s i)=true
  .rw[if_pos h1];have:=xM s f (i+1) (acc++one s i);rw[ByteArray.size_append,iQ (dY (uV h1))]at this;omega
  .rw[if_neg h1];by_cases h2:kY s i=true
   .rw[if_pos h2];have:=xM s f (esc s i).2 (acc++(esc s i).1);rw[ByteArray.size_append,kN]at this;omega
   .rw[if_neg h2];simp
theorem sO(s:BY)(i:Nat):(name s i).1.size<=s.size:=by have:=(xM s s.size i ByteArray.empty).1;simp at this;exact this
theorem CG{s:BY}{i:Nat}(h:jT s i=true)(hs:0<s.size):0<(name s i).1.size:=by
 unfold name;obtain⟨f,hf⟩:∃f,s.size=f+1:=⟨s.size-1,by omega⟩;rw[hf];unfold iK;unfold jT at h;by_cases h1:lX (pk s i)=true
 .rw[if_pos h1];have:=(xM s f (i+1) (ByteArray.empty++one s i)).2;rw[ByteArray.size_append,iQ (dY (uV h1))]at this;omega
 .rw[if_neg h1];have h2:kY s i=true:=by simpa[h1]using h
  rw[if_pos h2];have:=(xM s f (esc s i).2 (ByteArray.empty++(esc s i).1)).2;rw[ByteArray.size_append,kN]at this;omega
theorem qK(s:BY)(q:Int):∀f i acc,(lK s q f i acc).1.word.size<=acc.size+f
 |0,_,acc=>by simp[lK,Tok.w]
 |f+1,i,acc=>by
  unfold lK;by_cases h0:s.size<=i
  .rw[if_pos h0];simp[Tok.w]
  rw[if_neg h0];by_cases h1:pk s i=q
  .rw[if_pos h1];simp[Tok.w]
  rw[if_neg h1];by_cases h2:pk s i=10
  .rw[if_pos h2];simp[Tok.k]
  rw[if_neg h2];by_cases h3:pk s i=92
  .rw[if_pos h3];by_cases h4:s.size<=i+1
   .rw[if_pos h4];have:=qK s q f (i+1) acc;omega
   rw[if_neg h4];by_cases h5:pk s (i+1)=10
   .rw[if_pos h5];have:=qK s q f (i+2) acc;omega
   rw[if_neg h5];have:=qK s q f (esc s i).2 (acc++(esc s i).1);rw[ByteArray.size_append,kN]at this;omega
  rw[if_neg h3];have:=qK s q f (i+1) (acc++one s i);rw[ByteArray.size_append,iQ (by omega)]at this;omega
theorem vI(s:BY):∀f i acc,(jd s f i acc).1.word.size<=acc.size+f
 |0,_,acc=>by simp[jd,Tok.w]
 |f+1,i,acc=>by
  unfold jd;by_cases h0:s.size<=i
  .rw[if_pos h0];simp[Tok.w]
  rw[if_neg h0];by_cases h1:pk s i=41
  .rw[if_pos h1];simp[Tok.w]
  rw[if_neg h1];by_cases h2:aO (pk s i)=true
  .rw[if_pos h2];by_cases h3:s.size<=blk s i
   .rw[if_pos h3];simp[Tok.w]
   rw[if_neg h3];by_cases h4:pk s (blk s i)=41
   .rw[if_pos h4];simp[Tok.w]
   rw[if_neg h4];simp[Tok.k]
  rw[if_neg h2];by_cases h3:kY s i=true
  .rw[if_pos h3];have:=vI s f (esc s i).2 (acc++(esc s i).1);rw[ByteArray.size_append,kN]at this;omega
  rw[if_neg h3];by_cases h4:Eb (pk s i)=true
  .rw[if_pos h4];simp[Tok.k]
  rw[if_neg h4];have:=vI s f (i+1) (acc++one s i);rw[ByteArray.size_append,iQ (by omega)]at this;omega
theorem lu(s:BY)(q:Int):∀f i acc,((lK s q f i acc).1.kind=2\/(lK s q f i acc).1.kind=3)/\(lK s q f i acc).1.unit=ByteArray.empty
 |0,_,acc=>by simp[lK,Tok.w]
 |f+1,i,acc=>by
  unfold lK;split
  .simp[Tok.w]
  split
  .simp[Tok.w]
  split
  .simp[Tok.k]
  split
  .split
   .exact lu s q f _ _
   split
   .exact lu s q f _ _
   .exact lu s q f _ _
  .exact lu s q f _ _
theorem mQ(s:BY):∀f i acc,((jd s f i acc).1.kind=12\/(jd s f i acc).1.kind=13)/\(jd s f i acc).1.unit=ByteArray.empty
 |0,_,acc=>by simp[jd,Tok.w]
 |f+1,i,acc=>by
  unfold jd;split
  .simp[Tok.w]
  split
  .simp[Tok.w]
  split
  .split
   .simp[Tok.w]
   split
   .simp[Tok.w]
   .simp[Tok.k]
  split
  .exact mQ s f _ _
  split
  .simp[Tok.k]
  .exact mQ s f _ _
theorem dI.k{n:Int}(h5:n≠5)(h7:n≠7)(h15:n≠15)(hn:¬(n=4\/n=10\/n=11\/n=14)):dI (Tok.k n):=⟨by simp[Tok.k],by simp[Tok.k],fun h=>absurd h h5,fun h=>absurd h h7,fun h=>absurd h h15,fun h=>absurd h hn⟩
theorem dI.w{n:Int}{x:BY}(hx:x.size<=1000)(h5:n≠5)(h7:n≠7)(h15:n≠15)(hn:(n=4\/n=10\/n=11\/n=14)->0<x.size):dI (Tok.w n x):=⟨by show x.size<=_;omega,by simp[Tok.w],fun h=>absurd h h5,fun h=>absurd h h7,fun h=>absurd h h15,hn⟩
theorem VE{s:BY}{i:Nat}(hi:i<s.size)(hs:s.size<=1000)(h:iO s i=true):dI (numeric s i).1:=by
 have h1:=yY h;have h2:=yX (s:=s) (i:=i) AF;have hz:(s.extract i (bT s i)).size=bT s i-i:=by simp;omega
 unfold numeric;simp only;by_cases h37:pk s (bT s i)=37
 .rw[if_pos h37];exact dI.w (by rw[hz];omega) AF AF AF AF
 rw[if_neg h37];by_cases hb:iG s (bT s i)=true
 .rw[if_pos hb];have hn:=sO s (bT s i);exact⟨by rw[hz];omega,by show(name s (bT s i)).1.size<=_;omega,fun h=>by simp at h,fun _=>CG (xu hb) AF,fun h=>by simp at h,fun h=>by simp at h⟩
 .rw[if_neg hb];exact⟨by show(s.extract i (bT s i)).size<=_;rw[hz];omega,by simp[Tok.w],fun _=>by show 0<(s.extract i (bT s i)).size;rw[hz];omega,fun h=>by simp[Tok.w]at h,fun h=>by simp[Tok.w]at h,fun h=>by simp[Tok.w]at h⟩
theorem named_ok{s:BY}{i:Nat}(hs:s.size<=1000)(hb:iG s i=true)(hi:i<s.size):dI (named s i).1:=by
 have hn:=sO s i;have hp:=CG (xu hb) AF;unfold named;simp only;split
 .split
  .have h1:=vI s s.size (blk s ((name s i).2+1)) ByteArray.empty;have h2:=mQ s s.size (blk s ((name s i).2+1)) ByteArray.empty;simp at h1;unfold link;refine⟨by omega,by rw[h2.2];simp,fun h=>?_,fun h=>?_,fun h=>?_,fun h=>?_⟩<;>(rcases h2.1 with e|e<;>rw[e]at h<;>simp at h)
  .exact dI.w AF AF AF AF (fun _=>hp)
 .exact dI.w AF AF AF AF (fun _=>hp)
theorem acv{s:BY}{i:Nat}(hi:i<s.size)(hs:s.size<=1000):dI (token s i).1:=by
 unfold token;split
 .exact dI.k AF AF AF AF
 split
 .have h1:=qK s (pk s i) s.size (i+1) ByteArray.empty;have h2:=lu s (pk s i) s.size (i+1) ByteArray.empty;simp at h1;unfold txt;refine⟨by omega,by rw[h2.2];simp,fun h=>?_,fun h=>?_,fun h=>?_,fun h=>?_⟩<;>(rcases h2.1 with e|e<;>rw[e]at h<;>simp at h)
 split
 .rename_i h35;have:=sO s (i+1);exact dI.w AF AF AF AF (fun _=>CG h35.2 AF)
 split
 .exact VE hi hs ‹_›
 split
 .exact dI.k AF AF AF AF
 split
 .exact dI.k AF AF AF AF
 split
 .rename_i h64;have:=sO s (i+1);exact dI.w AF AF AF AF (fun _=>CG (xu h64.2) AF)
 split
 .exact named_ok hs ‹_› hi
 .have:=iQ hi;exact⟨by show(one s i).size<=_;omega,by simp[Tok.w],fun h=>by simp[Tok.w]at h,fun h=>by simp[Tok.w]at h,fun _=>this,fun h=>by simp[Tok.w]at h⟩
theorem Yy{s:BY}(hs:s.size<=1000):∀f i,i<=s.size->∀t∈tokF s f i,dI t
 |0,_,_,t,h=>by simp[tokF]at h
 |f+1,i,hi,t,h=>by
  unfold tokF at h;by_cases h0:s.size<=i
  .rw[if_pos h0]at h;simp at h
  .rw[if_neg h0]at h;rcases List.mem_cons.1 h with e|e
   .rw[e];exact acv AF hs
   .exact Yy hs f _ (Af (xB AF)) t e
theorem Oz{s:BY}(hs:s.size<=1000):∀t∈toks s,dI t:=Yy hs _ _ (Af (Nat.zero_le _))
theorem Eo:∀(p:aI) (i k:Nat) (_:gI i p=true) (h:k<p.length),xC (i+k) p[k]=true
 |x::r,i,0,h,_=>by simp[gI]at h;simpa using h.1
 |x::r,i,k+1,h,hk=>by simp[gI]at h;have:=Eo r (i+1) k h.2 (by simpa using hk);rw[show i+(k+1)=i+1+k from by omega];simpa using this
theorem Ij{p:aI}(h:iL p=true):Par p:=by
 unfold iL at h;simp at h;have key:∀e,(he:e<p.length)->(e=0/\p[e].parent = -1)\/(e≠0/\0<=p[e].parent/\p[e].parent<e):=by
  intro e he;have h1:=Eo p 0 e h.2 he;rw[Nat.zero_add]at h1;unfold xC at h1;simp only[Bool.and_eq_true]at h1;have h2:=h1.1.1.2;by_cases h0:e=0
  .rw[if_pos h0]at h2;exact .inl ⟨h0,by simpa using h2⟩
  .rw[if_neg h0]at h2;simp at h2;exact .inr ⟨h0,h2⟩
 refine⟨fun e he=>?_,fun e he hn=>?_⟩
 .rw[ng he];rcases key e he with h1|h1<;>omega
 .rw[ng he]at hn;rcases key e he with h1|h1<;>omega
section
mutual
def okN:Nd->Prop
 |.mk t k=>dI t/\gu k
def gu:List Nd->Prop
 |[]=>True
 |n::r=>okN n/\gu r
end
theorem jl(n:Nd):okN n↔dI n.t/\gu n.kids:=by cases n;simp[okN]
theorem rC:∀(l:List Nd),gu l↔∀n∈l,okN n
 |[]=>by simp[gu]
 |m::r=>by simp[gu,rC r]
structure amq(k:Nat)(v:BY)(p:Nat):Prop where
 kind:k=116\/k=35\/k=46\/k=91\/k=58
 val:v.size<=4000000
 place:p<=1001
mutual
def okS:Simple->Prop
 |.mk k _ _ v l p=>amq k v p/\okL l
def okA:List Simple->Prop
 |[]=>True
 |s::r=>okS s/\okA r
def okT:Nat×List Simple->Prop
 |(b,all)=>b<256/\okA all
def okC:List (Nat×List Simple)->Prop
 |[]=>True
 |s::r=>okT s/\okC r
def okL:List (List (Nat×List Simple))->Prop
 |[]=>True
 |c::r=>(c≠[]/\okC c)/\okL r
end
theorem uj{l:List Nd}(h:gu l):gu (aH l):=by
 induction l with
 |nil=>simp[aH,gu]
 |cons n r ih=>
  unfold aH;split
  .exact ih h.2
  .exact h
theorem sQ{l:List Nd}(h:gu l):gu (bare l):=by rw[rC];intro n hn;unfold bare lJ at hn;rw[List.mem_reverse]at hn;have h1:gu (aH (aH l).reverse):=uj (by rw[rC];intro m hm;exact(rC _).1 (uj h) m (List.mem_reverse.1 hm));exact(rC _).1 h1 n hn
theorem CJ:∀(l:List Nd) (out:List (List Nd)) (cur:List Nd),(∀p∈out,gu p)->gu cur->gu l->∀p∈iZ out cur l,gu p
 |[],out,cur,h1,h2,_,p,hp=>by
  unfold iZ at hp;rcases List.mem_append.1 hp with h|h
  .exact h1 p h
  .simp at h;subst h;exact h2
 |m::r,out,cur,h1,h2,h3,p,hp=>by
  unfold iZ at hp;split at hp
  .refine CJ r (out++[cur]) [] (fun q hq=>?_) (by simp[gu]) h3.2 p hp;rcases List.mem_append.1 hq with h|h
   .exact h1 q h
   .simp at h;subst h;exact h2
  .refine CJ r out (cur++[m]) h1 ?_ h3.2 p hp;rw[rC];intro k hk;rcases List.mem_append.1 hk with h|h
   .exact(rC _).1 h2 k h
   .simp at h;subst h;exact h3.1
theorem Yz:∀(l:List UInt8) (v n:Nat),oN v l=some n->n<=999
 |[],v,n,h=>by
  unfold oN at h;split at h
  .cases h;assumption
  .cases h
 |c::r,v,n,h=>by
  unfold oN at h;split at h
  .exact Yz r _ n h
  .cases h
theorem Ik{t:Tok}{p:Nat}(h:placeOf t=some p):p<=1001:=by
 unfold placeOf at h;split at h
 .split at h
  .cases h;omega
  split at h
  .cases h;omega
  .cases h
 .split at h
  .cases hn:oN 0 t.word.data.toList with
   |none=>rw[hn]at h;cases h
   |some n=>rw[hn]at h;simp at h;have:=Yz _ _ _ hn;omega
  .cases h
theorem QK{l r:List Nd}{c:Nat}(hn:gu l)(h:gU l=some (c,r)):c<256/\gu r:=by
 unfold gU at h;have hd:=uj hn;split at h
 .split at h
  .cases h
  .cases h;exact⟨by omega,by simp[gu]⟩
 .rename_i n r' hdr;rw[hdr]at hd;split at h
  .cases h;exact⟨by omega,uj hd.2⟩
  split at h
  .cases h;exact⟨by omega,uj hd.2⟩
  split at h
  .cases h;exact⟨by omega,uj hd.2⟩
  split at h
  .cases h;exact⟨by omega,hd⟩
  .cases h
section
variable {rec:List Nd->Option bY} (hrec : ∀ l ss,gu l->rec l=some ss->okL ss)
include hrec
end
end
section
def wL(h:BY):Prop:=h=aA\/h=b1 61\/h=⟨#[126,61]⟩\/h=⟨#[94,61]⟩\/h=⟨#[36,61]⟩\/h=⟨#[42,61]⟩
def Il(nm:BY):Prop:=nm=BL\/nm=uY\/nm=BM\/nm=Eh\/nm=nD\/nm=DY\/nm=nG
def Io(b:Nat):Prop:=b=32\/b=62\/b=43\/b=126
structure PrN(k:Nat)(nm how v:BY)(p:Nat):Prop where
 kind:k=116\/(k=35/\nm≠aA)\/k=46\/(k=91/\wL how)\/(k=58/\Il nm)
 val:v.size<=4000000
 place:p<=1001
 nmz:nm.size<=4000000
 hwz:how.size<=10
theorem jE(s:BY):(small s).size=s.size:=by show(s.data.toList.map jr).toArray.size=s.data.size;rw[List.size_toArray,List.length_map,Array.length_toList]
mutual
def qkS:Simple->Prop
 |.mk k nm how v l p=>PrN k nm how v p/\CO l
def CP:List Simple->Prop
 |[]=>True
 |s::r=>qkS s/\CP r
def qkC:List (Nat×List Simple)->Prop
 |[]=>False
 |(b,all)::r=>b=0/\CP all/\qkR r
def qkR:List (Nat×List Simple)->Prop
 |[]=>True
 |(b,all)::r=>Io b/\CP all/\qkR r
def CO:List (List (Nat×List Simple))->Prop
 |[]=>True
 |c::r=>qkC c/\CO r
end
theorem Ip:∀(a b:List Simple),CP (a++b)↔CP a/\CP b
 |[],b=>by simp[CP]
 |s::r,b=>by simp[CP,Ip r b,and_assoc]
theorem lC{k:Nat}{nm h v:BY}{p:Nat}(hs:PrN k nm h v p):qkS (.mk k nm h v [] p):=by simp[qkS,CO,hs]
theorem ML{l:List Nd}{s:Simple}(hl:gu l)(h:gG l=some s):qkS s:=by
 unfold gG at h;split at h
 .cases h
 .rename_i n r;simp only at h;split at h
  .cases h
  .split at h
   .cases h;exact lC ⟨by simp[wL],Nat.zero_le _,by omega,((jl n).1 hl.1).1.word,Nat.zero_le _⟩
   .rename_i m r1 hb;split at h
    .cases h
    .have hr1:gu (m::r1):=by rw[<-hb];exact sQ hl.2
     split at h
     .cases h
     .rename_i q r2 hq;have hq2:gu (q::r2):=by
       rw[<-hq];split
       .exact hr1.2
       .exact hr1
      split at h
      .rename_i v hv;have hv2:gu [v]:=by rw[<-hv];exact sQ hq2.2
       split at h
       .cases h;refine lC ⟨.inr (.inr (.inr (.inl ⟨rfl,?_⟩))),((jl v).1 hv2.1).1.word,by omega,((jl n).1 hl.1).1.word,?_⟩
        .split
         .rename_i hm;rcases hm with e|e|e|e<;>rw[e]<;>unfold wL<;>decide
         .unfold wL;decide
        .split
         .rename_i hm;rcases hm with e|e|e|e<;>rw[e]<;>decide
         .decide
       .cases h
      .cases h
theorem QL{l r:List Nd}{c:Nat}(h:gU l=some (c,r)):Io c:=by
 unfold gU at h;split at h
 .split at h
  .cases h
  .cases h;simp[Io]
 .split at h
  .cases h;simp[Io]
  split at h
  .cases h;simp[Io]
  split at h
  .cases h;simp[Io]
  split at h
  .cases h;simp[Io]
  .cases h
theorem hash_ne{n:Nd}(h:okN n)(hk:n.t.kind=4):n.t.word≠aA:=by have:=((jl n).1 h).1.named (.inl hk);intro e;rw[e]at this;exact absurd this (by decide)
section
variable {rec:List Nd->Option bY} (hrec : ∀ l ss,gu l->rec l=some ss->CO ss)
include hrec
theorem VF{n:Nd}{s:Simple}(hn:okN n)(h:bM rec n=some s):qkS s:=by
 unfold bM at h;simp only at h;split at h
 .split at h
  .rename_i hw;cases h;exact lC ⟨.inr (.inr (.inr (.inr ⟨rfl,by rcases hw with e|e|e|e<;>simp[Il,e]⟩))),Nat.zero_le _,by omega,by rw[jE];exact((jl n).1 hn).1.word,Nat.zero_le _⟩
  .cases h
 split at h
 .cases h
 split at h
 .rename_i hw;cases hr:rec n.kids with
  |none=>rw[hr]at h;cases h
  |some ss=>rw[hr]at h;simp at h;subst h;have:=hrec _ _ ((jl n).1 hn).2 hr;simp only[qkS];exact⟨⟨.inr (.inr (.inr (.inr ⟨rfl,by rcases hw with e|e<;>simp[Il,e]⟩))),Nat.zero_le _,by omega,by rw[jE];exact((jl n).1 hn).1.word,Nat.zero_le _⟩,this⟩
 split at h
 .rename_i hw;split at h
  .rename_i v hv;cases hp:placeOf v.t with
   |none=>rw[hp]at h;cases h
   |some q=>rw[hp]at h;simp at h;subst h;exact lC ⟨.inr (.inr (.inr (.inr ⟨rfl,by simp[Il,hw]⟩))),Nat.zero_le _,Ik hp,by rw[jE];exact((jl n).1 hn).1.word,Nat.zero_le _⟩
  .cases h
 .cases h
theorem aae(n:Nat):∀(acc:List Simple) (l:List Nd) (all:List Simple) (r:List Nd),l.length<=n->CP acc->gu l->bZ rec acc l=some (all,r)->CP all/\gu r:=by
 induction n with
 |zero=>intro acc l all r hl ha hn h;obtain rfl:l=[]:=List.eq_nil_of_length_eq_zero AF;simp[bZ]at h;obtain⟨rfl,rfl⟩:=h;exact⟨ha,hn⟩
 |succ n ih=>
  intro acc l all r hl ha hn h;have one:∀s,qkS s->CP (acc++[s]):=fun s hs=>by rw[Ip];exact⟨ha,by simp[CP,hs]⟩
  match l,hl,hn,h with
  |[],_,hn,h=>simp[bZ]at h;obtain⟨rfl,rfl⟩:=h;exact⟨ha,hn⟩
  |[m],_,hn,h=>
   have hw:=((jl m).1 hn.1);unfold bZ at h;split at h
   .rename_i hk;cases h;exact⟨one _ (lC ⟨.inr (.inl ⟨rfl,hash_ne hn.1 hk⟩),Nat.zero_le _,by omega,hw.1.word,Nat.zero_le _⟩),by simp[gu]⟩
   split at h
   .cases h
   split at h
   .split at h
    .cases h
    .rename_i s hs;cases h;exact⟨one _ (ML (sQ hw.2) hs),by simp[gu]⟩
   split at h
   .cases h
   .cases h;exact⟨ha,hn⟩
  |m::q::r',hl,hn,h=>
   simp only[List.length_cons]at hl;have hw:=((jl m).1 hn.1);unfold bZ at h;split at h
   .rename_i hk;exact ih _ _ _ _ (by simp;omega) (one _ (lC ⟨.inr (.inl ⟨rfl,hash_ne hn.1 hk⟩),Nat.zero_le _,by omega,hw.1.word,Nat.zero_le _⟩)) hn.2 h
   split at h
   .split at h
    .exact ih _ _ _ _ AF (one _ (lC ⟨by simp,Nat.zero_le _,by omega,((jl q).1 hn.2.1).1.word,Nat.zero_le _⟩)) hn.2.2 h
    .cases h
   split at h
   .split at h
    .cases h
    .rename_i s hs;exact ih _ _ _ _ (by simp;omega) (one _ (ML (sQ hw.2) hs)) hn.2 h
   split at h
   .split at h
    .cases h
    .rename_i s hs;exact ih _ _ _ _ AF (one _ (VF hrec hn.2.1 hs)) hn.2.2 h
   .cases h;exact⟨ha,hn⟩
theorem CQ{l:List Nd}{all:List Simple}{r:List Nd}(hn:gu l)(h:aZ rec l=some (all,r)):CP all/\gu r:=by
 unfold aZ at h;have ht:CP (kP l).1/\gu (kP l).2:=by
  unfold kP;split
  .exact⟨by simp[CP],by simp[gu]⟩
  .split
   .exact⟨by simp only[CP,and_true];exact lC ⟨by simp,Nat.zero_le _,by omega,by rw[jE];exact((jl _).1 hn.1).1.word,Nat.zero_le _⟩,hn.2⟩
   split
   .exact⟨by simp only[CP,and_true];exact lC ⟨by simp,Nat.zero_le _,by omega,Nat.zero_le _,Nat.zero_le _⟩,hn.2⟩
   .exact⟨by simp[CP],hn⟩
 exact aae hrec _ _ _ _ _ (Nat.le_refl _) ht.1 ht.2 h
theorem Fz:∀(f b:Nat) (l:List Nd) (ss:List Step),gu l->bD rec f b l=some ss->∃all r,ss=(b,all)::r/\CP all/\qkR r
 |0,_,_,_,_,h=>by simp[bD]at h
 |f+1,b,l,ss,hn,h=>by
  unfold bD at h;split at h
  .cases h
  .rename_i all r hc;have h1:=CQ hrec hn hc;split at h
   .cases h
   split at h
   .cases h;exact⟨_,_,rfl,h1.1,by simp[qkR]⟩
   .split at h
    .cases h
    .rename_i c r' hcb;have h2:=QK h1.2 hcb;have hc2:=QL hcb;cases hx:bD rec f c r' with
     |none=>rw[hx]at h;cases h
     |some x=>rw[hx]at h;simp at h;subst h;obtain⟨all2,r2,rfl,h4,h5⟩:=Fz f c r' x h2.2 hx;exact⟨_,_,rfl,h1.1,by simp only[qkR];exact⟨hc2,h4,h5⟩⟩
theorem QM:∀(ps:List (List Nd)) (ss:bY),(∀p∈ps,gu p)->fZ rec ps=some ss->CO ss
 |[],ss,_,h=>by simp[fZ]at h;subst h;simp[CO]
 |p::r,ss,hp,h=>by
  unfold fZ at h;split at h
  .cases h
  .rename_i s hs;cases hx:fZ rec r with
   |none=>rw[hx]at h;cases h
   |some x=>rw[hx]at h;simp at h;subst h;obtain⟨all,r3,rfl,h4,h5⟩:=Fz hrec _ _ _ _ (sQ (hp p (by simp))) hs;simp only[CO,qkC];exact⟨⟨trivial,h4,h5⟩,QM r x (fun q hq=>hp q (by simp[hq])) hx⟩
theorem QN{l:List Nd}{ss:bY}(hn:gu l)(h:oz rec l=some ss):CO ss:=by
 unfold oz at h;split at h
 .cases h
 .exact QM hrec _ _ (CJ l [] [] (by simp) (by simp[gu]) hn) h
end
theorem Gw:∀(f:Nat) (l:List Nd) (ss:bY),gu l->lM f l=some ss->CO ss
 |0,l,ss,hn,h=>QN (rec:=fun _=>none) (fun _ _ _ h=>by cases h) hn h
 |f+1,l,ss,hn,h=>QN (rec:=lM f) (fun l ss h1 h2=>Gw f l ss h1 h2) hn h
theorem VG:∀(ss:bY) (i:Nat) (_:CO ss) (h:i<ss.length),qkC ss[i]
 |c::r,0,h,_=>by simp only[CO]at h;simpa using h.1
 |c::r,i+1,h,hi=>by simp only[CO]at h;simpa using VG r i h.2 (by simpa using hi)
theorem acw:∀(ss:List Step) (i:Nat) (_:qkR ss) (h:i<ss.length),Io ss[i].1/\CP ss[i].2
 |(b,all)::r,0,h,_=>by simp only[qkR]at h;simpa using⟨h.1,h.2.1⟩
 |(b,all)::r,i+1,h,hi=>by simp only[qkR]at h;simpa using acw r i h.2.2 (by simpa using hi)
theorem acy:∀(ss:List Simple) (i:Nat) (_:CP ss) (h:i<ss.length),qkS ss[i]
 |c::r,0,h,_=>by simp only[CP]at h;simpa using h.1
 |c::r,i+1,h,hi=>by simp only[CP]at h;simpa using acy r i h.2 (by simpa using hi)
end
end Go.Proofs.YtlliliddljkbfaaGreat.Sp
namespace Go.Proofs.YtlliliddljkbfaaGreat
open Go.Proofs.Tryz (prog)
open Go.RowKit Sp
mutual
def zS:Simple->Nat
 |.mk _ nm how v l _=>4*nm.size+4*v.size+how.size+120+zL l
def zA:List Simple->Nat
 |[]=>0
 |s::r=>zS s+zA r
def zT:Nat×List Simple->Nat
 |(_,all)=>3+zA all
def zC:List (Nat×List Simple)->Nat
 |[]=>0
 |t::r=>zT t+zC r
def zL:List (List (Nat×List Simple))->Nat
 |[]=>0
 |c::r=>1+zC c+zL r
end
theorem VH(nm how v:BY):(zN nm how v).size<=4*nm.size+4*v.size+how.size+4:=by
 have h1:=fQ nm;have h2:=Au v;have e:∀(c:UInt8),(b1 c).size=1:=fun _=>rfl;unfold zN;split
 .rw[ByteArray.size_append,ByteArray.size_append,e,e];omega
 .rw[ByteArray.size_append,ByteArray.size_append,ByteArray.size_append,ByteArray.size_append,e,e];omega
theorem VI(b:Nat):(tV b).size<=3:=by
 unfold tV;split
 .show 1<=3;omega
 .split
  .show 3<=3;omega
  .show 0<=3;omega
def jm[bV]:Prop:=∀n,n<=1000->(H7 n).size<=100
mutual
theorem aaf[bV](hd:jm):∀(s:Simple),qkS s->(Am s).size<=zS s
 |.mk k nm how v l p,hq=>by
  have h1:=fQ nm;have h2:=VH nm how v;have e:∀(c:UInt8),(b1 c).size=1:=fun _=>rfl;simp only[qkS]at hq;have h3:=Iq hd l hq.2;have hp:=hq.1.place;unfold Am zS;by_cases k1:k=116
  .rw[if_pos k1];split
   .rw[e];omega
   .omega
  rw[if_neg k1];by_cases k2:k=35
  .rw[if_pos k2,ByteArray.size_append,e];omega
  rw[if_neg k2];by_cases k3:k=46
  .rw[if_pos k3,ByteArray.size_append,e];omega
  rw[if_neg k3];by_cases k4:k=91
  .rw[if_pos k4];omega
  rw[if_neg k4];by_cases k5:nm=nD\/nm=DY
  .rw[if_pos k5];simp only[ByteArray.size_append,e];omega
  rw[if_neg k5];by_cases k6:nm=nG
  .rw[if_pos k6];have h4:(if p=0 then sZ else if p=1 then l7 else H7 (p-2)).size<=100:=by
    split
    .show 3<=100;omega
    .split
     .show 4<=100;omega
     .exact hd _ oo
   simp only[ByteArray.size_append,e];omega
  rw[if_neg k6,ByteArray.size_append,e];omega
theorem MN[bV](hd:jm):∀(l:List Simple),CP l->(vw l).size<=zA l
 |[],_=>by unfold vw;show 0<=_;omega
 |s::r,hq=>by simp only[CP]at hq;unfold vw zA;have:=aaf hd s hq.1;have:=MN hd r hq.2;rw[ByteArray.size_append];omega
theorem MO[bV](hd:jm):∀(t:Nat×List Simple),CP t.2->(ab9 t).size<=zT t
 |(b,all),hq=>by unfold ab9 zT;have:=VI b;have:=MN hd all hq;rw[ByteArray.size_append];omega
theorem MP[bV](hd:jm):∀(c:List (Nat×List Simple)),qkR c->(dW c).size<=zC c
 |[],_=>by unfold dW;show 0<=_;omega
 |(b,all)::r,hq=>by simp only[qkR]at hq;unfold dW zC;have:=MO hd (b,all) hq.2.1;have:=MP hd r hq.2.2;rw[ByteArray.size_append];omega
theorem qL[bV](hd:jm):∀(c:List (Nat×List Simple)),qkC c->(dW c).size<=zC c
 |[],hq=>by simp only[qkC]at hq
 |(b,all)::r,hq=>by simp only[qkC]at hq;unfold dW zC;have:=MO hd (b,all) hq.2.1;have:=MP hd r hq.2.2;rw[ByteArray.size_append];omega
theorem Iq[bV](hd:jm):∀(l:List (List (Nat×List Simple))),CO l->(jV aA l).size<=zL l
 |[],_=>by unfold jV;show 0<=_;omega
 |c::r,hq=>by simp only[CO]at hq;unfold jV zL;have:=qL hd c hq.1;have:=Ir hd r hq.2;have e:aA.size=0:=rfl;rw[ByteArray.size_append,ByteArray.size_append,e];omega
theorem Ir[bV](hd:jm):∀(l:List (List (Nat×List Simple))),CO l->(qC aA l).size<=zL l
 |[],_=>by unfold qC;show 0<=_;omega
 |c::r,hq=>by simp only[CO]at hq;unfold qC zL;have:=qL hd c hq.1;have:=Ir hd r hq.2;have e:aA.size=0:=rfl;have e2:(b1 44).size=1:=rfl;rw[ByteArray.size_append,ByteArray.size_append,ByteArray.size_append,e,e2];omega
end
section
attribute [local go_sem] bI bJ aX aY
def aag(d:List Nd):Option Nat:=match d with|[v]=>placeOf v.t|_=>none
def zD(l:List Nd):Option Nat:=aag (bare l)
theorem Ep(lv:Av)(p:Nat):fE 58 nG aA aA lv p=.iface 351 (if p=0 then .agg #[.string sZ,.int .i64 0] else if p=1 then .agg #[.string l7,.int .i64 0] else .agg #[.string aA,.int .i64 ((p-2:Nat):Int)]):=by unfold fE;rw[if_neg oo,if_neg oo,if_neg oo,if_neg oo,if_neg (by decide),if_neg (by decide),if_pos rfl]
theorem aah{s:BY}(h0:0<s.size)(h:fG (pk s 0)=false):oN 0 s.data.toList=none:=by
 have e:∃c r,s.data.toList=c::r:=by
  cases hl:s.data.toList with
  |nil=>
   have:s.data.toList.length=s.size:=by simp
   rw[hl]at this;simp at this;omega
  |cons c r=>exact⟨c,r,rfl⟩
 obtain⟨c,r,e⟩:=e;have hp:pk s 0=(c.toNat:Int):=by rw[Yw h0];simp[e]
 rw[e];unfold oN;rw[hp]at h;rw[if_neg];rintro ⟨h1,h2,_⟩;simp[fG]at h;omega
theorem QO(B:Nat)(l:List Nd)(v:Av)(w:WD)(h:Sl (fun b=>b<B) w v l)(hB:B<=w.heap.size):
  Calls prog 306 #[v] w fun e w'=>((zD l=none/\∃pv,e=.returned (.tuple #[pv,.bool false]))\/∃p,zD l=some p/\e=.returned (.tuple #[fE 58 nG aA aA (.slice none 0 0) p,.bool true]))/\Below w.heap.size w w':=by
 have HS:=hid h;clear h;obtain⟨d,Hd⟩:=Nm (bare l);have HP:Hid (zD l=aag d):=by show _=_;unfold zD;rw[Hd.o]
 obtain⟨a,cap,rfl⟩:=HS.o.form;go_in;go_wp2_with fail;refine(tu B l _ w HS.o).mono ?_;rw[Hd.o];rintro e w1 ⟨v1,rfl,hS1,rfl⟩;have S1:=hid hS1;clear hS1 HS;by_cases h1:∃x,d=[x]
 .obtain⟨x,rfl⟩:=h1;obtain⟨g,o,kv,cp,rfl,hN,hcp⟩:=S1.o.head;obtain⟨ka,kc,rfl⟩:=hN.k.form;have d0:=hN.c0;have d1:=hN.c1;have d2:=hN.c2;have d3:=hN.c3;have VJ:=hid hN.ok;have hg:g<w1.heap.size:=by have:g<B:=hN.s;omega
  clear hN S1;have A2:Hid (VB (w1.alloc (.cells #[.int .i64 x.t.kind,.string x.t.word,.string x.t.unit,.slice ka x.kids.length kc] 199)) w1.heap.size (.int .i64 x.t.kind) (.string x.t.word) (.string x.t.unit) (.slice ka x.kids.length kc)):=VB.new _ _ _ _ _;have B2:Hid (Below w1.heap.size w1 (w1.alloc (.cells #[.int .i64 x.t.kind,.string x.t.word,.string x.t.unit,.slice ka x.kids.length kc] 199))):=Ax.alloc nl _;have hz:(((([]:List Nd).length:Nat):Int)+1 != 1)=false:=by simp
  simp only[List.length_nil]at *;go_upto_region 5 with fail
  generalize w1.alloc (.cells #[.int .i64 x.t.kind,.string x.t.word,.string x.t.unit,.slice ka x.kids.length kc] 199)=w2 at *;obtain⟨gt,mV⟩:=Nm w1.heap.size;have A3:Hid (VB w2 gt (.int .i64 x.t.kind) (.string x.t.word) (.string x.t.unit) (.slice ka x.kids.length kc)):=by rw[<-mV.o];exact A2
  rw[mV.o];clear A2 d0 d1 d2 d3;obtain⟨a0,a1,a2,a3⟩:=A3.o.cs;have hwd:=VJ.o.word;cases hk5:(x.t.kind==5)
  .cases FX:(x.t.kind==14)
   .have HV:Hid (zD l=none):=by
     show _=_;rw[HP.o];simp at hk5 FX;simp[aag,placeOf,hk5,FX]
    go_wp2_with fail;go_ret2
    exact⟨.inl ⟨HV.o,_,rfl⟩,B2.o⟩
   .have e14:x.t.kind=14:=by simpa using FX
    have HV:Hid (zD l=if small x.t.word=l7 then some 1 else if small x.t.word=sZ then some 0 else none):=by show _=_;rw[HP.o];simp only[aag,placeOf,if_pos e14]
    clear e14;obtain⟨nm,Aw⟩:=Nm (small x.t.word);rw[Aw.o]at HV;go_wp2_with fail;refine(nH x.t.word _ oo).mono ?_;rw[Aw.o];rintro e w3 ⟨rfl,hb3⟩;have B3:=hid (AC B2.o hb3);clear hb3;cases ho:(nm.toList==[111,100,100])
    .cases hv:(nm.toList==[101,118,101,110])
     .have HN:Hid (zD l=none):=by
       show _=_;rw[ay]at ho hv;have h1:¬nm=l7:=by simpa[l7]using hv
       have h2:¬nm=sZ:=by simpa[sZ]using ho
       rw[HV.o,if_neg h1,if_neg h2]
      go_wp2_with fail;go_ret2
      exact⟨.inl ⟨HN.o,_,rfl⟩,B3.o⟩
     .have h1:nm=l7:=by rw[ay]at hv;simpa[l7]using hv
      have HN:Hid (zD l=some 1):=by show _=_;rw[HV.o,if_pos h1]
      have H1:=hid h1;clear h1;go_wp2_with fail;go_ret2
      exact⟨.inr ⟨1,HN.o,by rw[Ep,H1.o];rfl⟩,B3.o⟩
    .have h1:nm=sZ:=by rw[ay]at ho;simpa[sZ]using ho
     have HN:Hid (zD l=some 0):=by show _=_;rw[HV.o,h1];rfl
     have H1:=hid h1;clear h1;go_wp2_with fail;go_ret2
     exact⟨.inr ⟨0,HN.o,by rw[Ep,H1.o];rfl⟩,B3.o⟩
  .have e5:x.t.kind=5:=by simpa using hk5
   have HV:Hid (zD l=(oN 0 x.t.word.data.toList).map (· + 2)):=by
    show _=_;rw[HP.o];have h0:=VJ.o.num e5;simp only[aag,placeOf];rw[if_neg oo];by_cases hd:fG (pk x.t.word 0)=true
    .rw[if_pos ⟨e5,hd⟩]
    .rw[if_neg (fun q=>hd q.2),aah h0 (by simpa using hd)];rfl
   clear e5;go_wp2_with fail;refine(Oy x.t.word _ hwd).mono ?_;rintro e w3 ⟨hr,rfl⟩;rcases hr with⟨hn,rfl⟩|⟨k,hn,rfl⟩
   .have HN:Hid (zD l=none):=by show _=_;rw[HV.o,hn];rfl
    clear hn;go_wp2_with fail;go_ret2
    exact⟨.inl ⟨HN.o,_,rfl⟩,B2.o⟩
   .have HN:Hid (zD l=some (k+2)):=by show _=_;rw[HV.o,hn];rfl
    clear hn;go_wp2_with fail;go_ret2
    exact⟨.inr ⟨k+2,HN.o,by rw[Ep,if_neg oo,if_neg oo];rfl⟩,B2.o⟩
 .have HV:Hid (zD l=none):=by
   show _=_;rw[HP.o];match d,h1 with
   |[],_=>rfl
   |[x],h1=>exact absurd ⟨x,rfl⟩ h1
   |_::_::_,_=>rfl
  have hne:((d.length:Int) != 1)=true:=by
   simp;intro e;apply h1
   match d,e with
   |[x],_=>exact⟨x,rfl⟩
  obtain⟨a1,c1,rfl⟩:=S1.o.form;have hl3:=S1.o.len;clear h1 HP;go_wp2_with fail;go_ret2
  exact⟨.inl ⟨HV.o,_,rfl⟩,Ax⟩
end
section
attribute [local go_sem] bI bJ aX aY
def sg(i:Nat):BY:=if i=0 then b1 126 else if i=1 then b1 94 else if i=2 then b1 36 else b1 42
def zF(l:List Nd):Nat->BY×List Nd
 |0=>(aA,l)
 |i+1=>if (zF l i).1=aA/\au (hdN (zF l i).2).t (sg i)=true then(sg i,(zF l i).2.tail) else zF l i
def CS(t:Tok):Bool:=au t (b1 126)||au t (b1 94)||au t (b1 36)||au t (b1 42)
def Iu(l:List Nd):BY:=if CS (hdN l).t=true then(hdN l).t.word else aA
def um(l:List Nd):List Nd:=if CS (hdN l).t=true then l.tail else l
theorem vJ{t:Tok}{s:BY}(h:au t s=true):t.word=s:=by simp[au]at h;exact h.2
set_option linter.unusedSimpArgs false in
theorem acz(l:List Nd):zF l 4=(Iu l,um l):=by
 have n0:sg 0≠aA:=by decide
 have n1:sg 1≠aA:=by decide
 have n2:sg 2≠aA:=by decide
 unfold Iu um CS;have e0:b1 126=sg 0:=rfl;have e1:b1 94=sg 1:=rfl;have e2:b1 36=sg 2:=rfl;have e3:b1 42=sg 3:=rfl;rw[e0,e1,e2,e3];simp only[zF];cases h0:au (hdN l).t (sg 0)
 .cases h1:au (hdN l).t (sg 1)
  .cases h2:au (hdN l).t (sg 2)
   .cases h3:au (hdN l).t (sg 3)
    .simp[h0,h1,h2,h3]
    .simp[h0,h1,h2,h3,vJ h3]
   .simp[h0,h1,h2,n2,vJ h2]
  .simp[h0,h1,n1,vJ h1]
 .simp[h0,n0,vJ h0]
theorem YA(l:List Nd):∀i,(zF l i).1.size<=1
 |0=>by show(0:Nat)<=1;omega
 |i+1=>by
  unfold zF;split
  .show(sg i).size<=1;unfold sg;repeat' split
   all_goals decide
  .exact YA l i
theorem amr:∀(i:Nat) (_:i<4) (W:WD),(Instr.index 347 (.agg #[.string ⟨#[126]⟩,.string ⟨#[94]⟩,.string ⟨#[36]⟩,.string ⟨#[42]⟩]) (.int .i64 (i:Int))).run prog W=.ok (.string (sg i)) W
 |0,_,W=>(by kernel_rfl:(Instr.index 347 (.agg #[.string ⟨#[126]⟩,.string ⟨#[94]⟩,.string ⟨#[36]⟩,.string ⟨#[42]⟩]) (.int .i64 ((0:Nat):Int))).run prog W=.ok (.string (sg 0)) W)
 |1,_,W=>(by kernel_rfl:(Instr.index 347 (.agg #[.string ⟨#[126]⟩,.string ⟨#[94]⟩,.string ⟨#[36]⟩,.string ⟨#[42]⟩]) (.int .i64 ((1:Nat):Int))).run prog W=.ok (.string (sg 1)) W)
 |2,_,W=>(by kernel_rfl:(Instr.index 347 (.agg #[.string ⟨#[126]⟩,.string ⟨#[94]⟩,.string ⟨#[36]⟩,.string ⟨#[42]⟩]) (.int .i64 ((2:Nat):Int))).run prog W=.ok (.string (sg 2)) W)
 |3,_,W=>(by kernel_rfl:(Instr.index 347 (.agg #[.string ⟨#[126]⟩,.string ⟨#[94]⟩,.string ⟨#[36]⟩,.string ⟨#[42]⟩]) (.int .i64 ((3:Nat):Int))).run prog W=.ok (.string (sg 3)) W)
theorem ams(w:WD)(a b:BY):(w.alloc (.cells #[.string a,.string b] 9)).ownsRow w.heap.size 9 1 (.slice (some ⟨w.heap.size,0,none⟩) 2 2) 2 ([a,b].map Value.string):=⟨rfl,.inr ⟨w.heap.size,2,_,rfl,Nat.le_refl _,heap_alloc_new w _,Nat.le_refl _,by unfold maxLen;omega,rfl,rfl⟩⟩
theorem VK(B b:Nat)(sv:Av)(l:List Nd)(w:WD)(h:fV B w b sv l):
  Calls prog 304 #[.pointer (some ⟨b,0,none⟩)] w fun e w'=>∃sv',e=.returned (.tuple #[.string (Iu l++b1 61),.bool (au (hdN (um l)).t (b1 61))])/\fV B w' b sv' (zy (b1 61) (um l))/\Turn b w w':=by
 have R1:=hid h;clear h;go_in;go_wp2_with fail;go_loopg[4,8] 4 (fun g v4 v8 wr=>∃(i:Nat) (sv:Av) (kd:BY) (cur:List Nd),i+g=4/\v8=.int .i64 (i:Int)/\v4=.string kd/\Aside (fV B wr b sv cur/\Turn b w wr/\zF l i=(kd,cur)));case atStart=>exact⟨0,sv,_,l,oo,rfl,rfl,R1.o,Turn.refl _ _,rfl⟩
 case round=>
  obtain⟨i,sv,kd,cur,hi,rfl,rfl,hA⟩:=hrel;have R2:=hid hA.o.1;have T2:=hid hA.o.2.1;have HE:=hid hA.o.2.2;clear hA R1;by_cases hlt:i<4
  .have h1:(i:Int)<4:=oo;have hix:=amr i hlt;obtain⟨s,Hs⟩:=Nm (sg i);rw[Hs.o]at hix;cases hk:(kd.toList==([]:List UInt8))
   .have hk':¬kd=aA:=by rw[ay]at hk;simpa[aA]using hk
    have HN:Hid (zF l (i+1)=(kd,cur)):=by show _=_;unfold zF;rw[HE.o,if_neg (fun q=>hk' q.1)]
    clear hk';go_wp2_with fail;go_roundg(4-(i+1));case measure=>omega
    case rel=>exact⟨i+1,sv,kd,cur,oo,by congr 1,rfl,R2.o,T2.o,HN.o⟩
   .have hk':kd=aA:=by rw[ay]at hk;simpa[aA]using hk
    have HK:=hid hk';clear hk';go_wp2_with fail;refine(oP B b sv cur s _ R2.o).mono ?_;rintro e w3 ⟨Em,rfl,D7,Ox⟩;have T3:=hid (T2.o.trans Ox);clear Ox;obtain⟨c,Hc⟩:=Nm (au (hdN cur).t s);rw[Hc.o];cases c
    .have R3:Hid (fV B w3 b Em cur):=by have:=D7;rw[y5 Hc.o]at this;exact this
     have HN:Hid (zF l (i+1)=(kd,cur)):=by show _=_;unfold zF;rw[HE.o,Hs.o,if_neg (fun q=>by have:=q.2;rw[Hc.o]at this;cases this)]
     clear D7;go_wp2_with fail;go_roundg(4-(i+1));case measure=>omega
     case rel=>exact⟨i+1,Em,kd,cur,oo,by congr 1,rfl,R3.o,T3.o,HN.o⟩
    .have R3:Hid (fV B w3 b Em cur.tail):=by have:=D7;rw[qZ Hc.o]at this;exact this
     have HN:Hid (zF l (i+1)=(s,cur.tail)):=by show _=_;unfold zF;rw[HE.o,Hs.o,if_pos ⟨HK.o,Hc.o⟩]
     clear D7;go_wp2_with fail;go_roundg(4-(i+1));case measure=>omega
     case rel=>exact⟨i+1,Em,s,cur.tail,oo,by congr 1,rfl,R3.o,T3.o,HN.o⟩
  .have h1:(4:Int)<=(i:Int):=oo;obtain rfl:i=4:=oo;have hsz:kd.size<=1:=by have:=YA l 4;rw[HE.o]at this;exact this
   have HE2:Hid (Iu l=kd/\um l=cur):=by have:=HE.o;rw[acz]at this;exact⟨(Prod.mk.inj this).1,(Prod.mk.inj this).2⟩
   go_wp2_with fail;refine pmb (dQ [kd,b1 61] wr.heap.size _ _ (ams wr kd (b1 61)) Ab (by simp[total];have:(b1 61).size=1:=rfl;omega)) fun w3 hb3=>?_;have R3:Hid (fV B w3 b sv cur):=(R2.o.alloc _).below hb3;have T3:Hid (Turn b w w3):=(T2.o.alloc _).trans (Turn.of_below hb3);have HJ:Hid (aG [kd,b1 61]=kd++b1 61):=by show _=_;simp[aG]
   clear hb3;rw[HJ.o];go_wp2_with fail;refine(oP B b sv cur (b1 61) _ R3.o).mono ?_;rintro e w4 ⟨sv4,rfl,ZR,hT4⟩;have R4:=hid ZR;have T4:=hid (T3.o.trans hT4);clear ZR hT4;go_wp2_with fail;go_ret2
   rw[HE2.o.1,HE2.o.2];exact⟨sv4,rfl,R4.o,T4.o⟩
end
section
attribute [local go_sem] bI bJ aX aY
def Qg(l:List Nd):Prop:=∀x,l.getLast?=some x->x.t.kind≠1
theorem Qg.tail{n:Nd}{r:List Nd}(h:Qg (n::r)):Qg r:=by
 intro x hx;cases r with
 |nil=>simp at hx
 |cons m q=>exact h x (by rw[List.getLast?_cons_cons];exact hx)
theorem Qg.drop{l:List Nd}(h:Qg l):Qg (aH l):=by
 induction l with
 |nil=>exact h
 |cons n r ih=>
  by_cases hk:n.t.kind=1
  .rw[pU hk];exact ih h.tail
  .rw[pV hk];exact h
theorem Qg.trim{l:List Nd}(h:Qg l):lJ l=l:=by
 rcases Yr l with rfl|⟨i,x,rfl⟩
 .rfl
 .exact Fa (h x Ab)
theorem Qg.bare{l:List Nd}(h:Qg l):bare l=aH l:=by unfold Sp.bare;exact h.drop.trim
theorem VL{l:List Nd}{n:Nd}{r:List Nd}(h:aH l=n::r):n.t.kind≠1:=by
 induction l with
 |nil=>simp[aH]at h
 |cons m q ih=>
  by_cases hk:m.t.kind=1
  .rw[pU hk]at h;exact ih h
  .rw[pV hk]at h;cases h;exact hk
theorem Qg.YB(l:List Nd):Qg (Sp.bare l):=by
 intro x hx;unfold Sp.bare lJ at hx;cases hd:aH (aH l).reverse with
 |nil=>rw[hd]at hx;simp at hx
 |cons n r=>rw[hd]at hx;simp at hx;subst hx;exact VL hd
def Le(k:Int)(l2:List Nd):Bool:=(au (hdN l2).t (b1 61)&&((k==14)&&((hdN (aH (zy (b1 61) l2))).t.kind==14||(hdN (aH (zy (b1 61) l2))).t.kind==2)))&&(aH (zy (b1 61) l2)).tail.length==0
def QS(d:List Nd):Bool:=Le (hdN d).t.kind (um (aH d.tail))
def wW(d:List Nd):Option Simple:=
 if aH d.tail=[] then(if (hdN d).t.kind=14 then some (Simple.of 91 (hdN d).t.word) else none)
 else if QS d=true then some (.mk 91 (hdN d).t.word (Iu (aH d.tail)++b1 61) (hdN (aH (zy (b1 61) (um (aH d.tail))))).t.word [] 0) else none
theorem aik:(hdN []).t.kind=0:=rfl
theorem Iw{t:Tok}{s:BY}(h:t.kind≠15):au t s=false:=by simp[au,h]
theorem acA{t:Tok}(h:t.kind=15):CS t=decide (t.word=b1 126\/t.word=b1 94\/t.word=b1 36\/t.word=b1 42):=by unfold CS au;simp only[h,decide_true,Bool.true_and,Bool.decide_or,Bool.or_assoc]
theorem acB{d:List Nd}(hd:Qg d):gG d=wW d:=by
 cases d with
 |nil=>rfl
 |cons n r=>
  have hr:Qg r:=hd.tail;have hn:(hdN (n::r))=n:=rfl;have hcase:aH r=[]\/∃m r1,aH r=m::r1:=by
   cases aH r with
   |nil=>exact .inl rfl
   |cons m r1=>exact .inr ⟨m,r1,rfl⟩
  unfold gG wW;rcases hcase with hl|⟨m,r1,hl⟩
  .simp only[List.tail_cons,hr.bare,hl,hn,if_true];by_cases hk:n.t.kind=14
   .rw[if_neg oo,if_pos hk]
   .rw[if_pos hk,if_neg hk]
  .simp only[List.tail_cons,hr.bare,hl];rw[if_neg (by simp:¬(m::r1=[]))];have hm:Qg (m::r1):=by rw[<-hl];exact hr.drop
   by_cases hk:n.t.kind=14
   .rw[if_neg oo];by_cases h15:m.t.kind=15
    .rw[if_neg oo];have hrel:=acA h15;have hhm:hdN (m::r1)=m:=rfl;have key:∀(l2:List Nd) (hw:BY),Qg l2->um (aH r)=l2->Iu (aH r)=hw ->
       (match l2 with
        |[]=>none
        |q::r2=>match Sp.bare r2 with
         |[v]=>if dN q (b1 61)=true/\(v.t.kind=14\/v.t.kind=2) then some (Simple.mk 91 n.t.word (hw++b1 61) v.t.word [] 0) else none
         |_=>none) =
       if QS (n::r)=true then some (Simple.mk 91 (hdN (n::r)).t.word (Iu (m::r1)++b1 61) (hdN (aH (zy (b1 61) (um (m::r1))))).t.word [] 0) else none:=by
      intro l2 hw hl2 e1 e2;rw[show QS (n::r)=Le n.t.kind (um (aH r)) from rfl,<-hl,e1,e2,hn];unfold Le;cases l2 with
      |nil=>rw[xK];rfl
      |cons q r2=>
       have hq:hdN (q::r2)=q:=rfl;rw[hq];simp only;rw[(hl2.tail).bare];cases hs:au q.t (b1 61)
       .simp only[dN,hs];cases aH r2 with
        |nil=>rfl
        |cons v q2=>cases q2<;>simp
       .have ho:zy (b1 61) (q::r2)=r2:=qZ hs;rw[ho];simp only[dN,hs];cases hv:aH r2 with
        |nil=>simp[hdN,Tok.k]
        |cons v q2=>
         cases q2 with
         |nil=>simp[hdN,hk]
         |cons v2 q3=>simp
     by_cases hh:m.t.word=b1 126\/m.t.word=b1 94\/m.t.word=b1 36\/m.t.word=b1 42
     .have hi:CS m.t=true:=by rw[hrel,decide_eq_true hh]
      simp only[if_pos hh];exact key r1 m.t.word hm.tail (by rw[hl];unfold um;rw[hhm,if_pos hi];rfl) (by rw[hl];unfold Iu;rw[hhm,if_pos hi])
     .have hi:¬CS m.t=true:=by rw[hrel,decide_eq_false hh];simp
      simp only[if_neg hh];exact key (m::r1) aA hm (by rw[hl];unfold um;rw[hhm,if_neg hi]) (by rw[hl];unfold Iu;rw[hhm,if_neg hi])
    .rw[if_pos h15];have hi:CS m.t=false:=by unfold CS;simp[Iw h15]
     have:QS (n::r)=false:=by
      rw[show QS (n::r)=Le n.t.kind (um (aH r)) from rfl,hl];unfold Le;have:um (m::r1)=m::r1:=by unfold um;rw[show hdN (m::r1)=m from rfl,hi];rfl
      rw[this,show hdN (m::r1)=m from rfl,Iw h15];rfl
     rw[this];rfl
   .rw[if_pos hk];have:QS (n::r)=false:=by
     rw[show QS (n::r)=Le n.t.kind (um (aH r)) from rfl];unfold Le;simp[hk]
    rw[this];rfl
end
