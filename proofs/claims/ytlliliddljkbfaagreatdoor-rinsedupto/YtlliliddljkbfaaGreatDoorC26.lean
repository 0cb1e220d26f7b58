import Derived.Test.YtlliliddljkbfaaGreatDoorC13
import Derived.Test.YtlliliddljkbfaaGreatDoorC25
import Derived.Deep.DeepCutAuto
import Derived.Deep.CutBlock
namespace Go.Proofs.YtlliliddljkbfaaGreatDoor
set_option maxHeartbeats 64000000
set_option maxRecDepth 100000
open Go.Proofs.Tryz (prog)
open Go.RowKit Sp
def MO(l:List Nd):Prop:=∀(B:Nat) (p:aS) (pv fv av v:Value) (w:World),iO B w p pv fv av->Sl (fun b=>b<B) w v l->Calls prog 60 #[v,dD p pv fv av] w fun e w'=>e=.returned (.bool (bV p l))/\Below w.heap.size w w'
theorem pJ{p:aS}{t:Tok}(h:t.kind=3\/t.kind=12\/t.kind=13\/t.kind=10\/t.kind=8\/t.kind=9):fE p t=false:=by unfold fE;rw[if_pos h]
theorem Wy{p:aS}{t:Tok}(h3:(t.kind==3)=false)(h12:(t.kind==12)=false)(h13:(t.kind==13)=false)(h10:(t.kind==10)=false)(h8:(t.kind==8)=false)(h9:(t.kind==9)=false):
  fE p t=if t.kind=15 then !decide (closing t=aA)||nJ t.word else if t.kind=2 then p.texts else if t.kind=11 then p.au.contains (small t.word) else true:=by
 unfold fE;rw[if_neg];simp at h3 h12 h13 h10 h8 h9;simp[h3,h12,h13,h10,h8,h9]
theorem PI(w:ByteArray):nJ w=((w.toList==[43])||(w.toList==[45])||(w.toList==[42])||(w.toList==[47])||(w.toList==[46])||(w.toList==[44])||(w.toList==[37])||(w.toList==[61])||(w.toList==[58])):=by unfold nJ;simp only[aH];rfl
theorem CY(l:List Nd)(hrec:∀n∈l,MO n.kids):MO l:=by
 intro B p pv fv av v w hP h;have Cc:=h.len;have hB:=hP.lt;have HS:Hid (Sl (fun b=>b<B) w v l):=h;have HR:Hid (∀n∈l,MO n.kids):=hrec;obtain⟨a,cap,rfl⟩:=h.form;obtain⟨pa,pc,rfl⟩:=hP.props.form;obtain⟨fa,fc,rfl⟩:=hP.au.form;obtain⟨aa,ac,rfl⟩:=hP.ats.form;have HP:Hid (iO B w p (.slice pa p.props.length pc) (.slice fa p.au.length fc) (.slice aa p.ats.length ac)):=hP;clear h hrec hP;obtain⟨B0,Q0⟩:=Qa.nb p pa fa aa pc fc ac w;unfold dD;go_in;go_upto_region 1 with fail
 have hsz0:=B0.o.size;have hlt0:=Q0.o.lt;generalize w.alloc (.cells #[.string p.root,.slice pa p.props.length pc,.slice fa p.au.length fc,.slice aa p.ats.length ac,.bool p.aO,.bool p.texts] 26)=w0 at *;obtain⟨rb,mF⟩:∃rb,Hid (w.heap.size=rb):=⟨_,hid rfl⟩;rw[mF.o]at B0 Q0 hB hlt0 hsz0⊢;have Ot:Hid (iO B w0 p (.slice pa p.props.length pc) (.slice fa p.au.length fc) (.slice aa p.ats.length ac)):=HP.o.below B0.o hB;have Yy:Hid (Sl (fun b=>b<B) w0 (.slice a l.length cap) l):=HS.o.below B0.o hB;clear HP HS;go_wp2_with fail;go_loopg[5] l.length (fun gg v9 wr=>∃i:Nat,v9=.int .i64 (i:Int)/\i+gg=l.length/\Aside (Below w0.heap.size w0 wr/\bV p l=bV p (l.drop i)));case atStart=>exact⟨0,rfl,oo,Below.refl _ _,by simp⟩
 case round=>
  obtain⟨i,rfl,hi,hA⟩:=hrel;have BR:Hid (Below w0.heap.size w0 wr):=hA.o.1;have HE:Hid (bV p l=bV p (l.drop i)):=hA.o.2;clear hA;have hsr:=BR.o.size;by_cases hlt:i<l.length
  .have h1:(i:Int)<(l.length:Int):=oo;have S1:=Yy.o.below BR.o oo;obtain⟨g,o,rfl,hL,hcap⟩:=S1.here (by rintro rfl;simp at hlt);obtain⟨kv,hN⟩:=hL.node (i:=i) hlt;obtain⟨n,hn⟩:∃n,n=l[i]:=⟨_,rfl⟩;have HM:Hid (n∈l):=by rw[hn];exact List.getElem_mem _
   have Hdr:Hid (l.drop i=n::l.drop (i+1)):=by show _=_;rw[hn];exact List.drop_eq_getElem_cons hlt
   rw[<-hn]at hN;have HE2:Hid (bV p l=(fE p n.t&&bV p n.kids&&bV p (l.drop (i+1)))):=by show _=_;rw[HE.o,Hdr.o,mW]
   have hwd:=hN.ok.word;have KH:Hid (Sl (fun b=>b<B) wr kv n.kids):=hN.k;have hgB:g<B:=hN.s;obtain⟨ka,kc,rfl⟩:=hN.k.form;have Zx:Hid (∀wx,Below wr.heap.size wr wx->wx.cell? ⟨g,o+i*4+3,none⟩=some (.slice ka n.kids.length kc)):=fun wx hb=>by rw[hb.cell (p:=⟨g,_,none⟩) (show g<wr.heap.size by omega)];exact hN.c3
   have TT:Hid (∀wx,Below wr.heap.size wr wx->Qa wx rb (.string p.root) (.slice pa p.props.length pc) (.slice fa p.au.length fc) (.slice aa p.ats.length ac) (.bool p.aO) (.bool p.texts)):=fun wx hb=>Q0.o.below (BR.o.trans (hb.mono hsr)) hlt0;have d0:=hN.c0;have d1:=hN.c1;have d2:=hN.c2;clear hN hL S1 hn;have A2:Hid (Q3 68 (wr.alloc (.cells #[.int .i64 n.t.kind,.string n.t.word,.string n.t.unit] 68)) wr.heap.size (.int .i64 n.t.kind) (.string n.t.word) (.string n.t.unit)):=Q3.new _ _ _ _ _;have X2:Hid (Below wr.heap.size wr (wr.alloc (.cells #[.int .i64 n.t.kind,.string n.t.word,.string n.t.unit] 68))):=(Below.refl _ _).alloc nl _;go_upto_region 5 with fail
   generalize wr.alloc (.cells #[.int .i64 n.t.kind,.string n.t.word,.string n.t.unit] 68)=w2 at *;obtain⟨gt,oU⟩:∃gt,Hid (wr.heap.size=gt):=⟨_,hid rfl⟩;have A3:Hid (Q3 68 w2 gt (.int .i64 n.t.kind) (.string n.t.word) (.string n.t.unit)):=by rw[<-oU.o];exact A2.o
   rw[oU.o];clear A2 d0 d1 d2;obtain⟨a0,a1,a2⟩:=A3.o.cs;have B2:Hid (Below w0.heap.size w0 w2):=BR.o.trans (X2.o.mono hsr);have hs2:=B2.o.size;go_upto_block 2 with fail;go_cut [8,9] (fun _ _ wx=>Below wr.heap.size wr wx/\fE p n.t=true);case first=>
    cases h3:(n.t.kind==3);case true=>
     have HT:Hid (fE p n.t=false):=pJ (by simp at h3;simp[h3]);have HV:Hid (bV p l=false):=by show _=_;rw[HE2.o,HT.o];rfl
     go_wp2_with fail;go_ret;exact⟨aI HV.o.symm,by rw[mF.o];exact B0.o.trans (B2.o.mono hsz0)⟩
    case false=>
     cases h12:(n.t.kind==12);case true=>
      have HT:Hid (fE p n.t=false):=pJ (by simp at h12;simp[h12]);have HV:Hid (bV p l=false):=by show _=_;rw[HE2.o,HT.o];rfl
      go_wp2_with fail;go_ret;exact⟨aI HV.o.symm,by rw[mF.o];exact B0.o.trans (B2.o.mono hsz0)⟩
     case false=>
      cases h13:(n.t.kind==13);case true=>
       have HT:Hid (fE p n.t=false):=pJ (by simp at h13;simp[h13]);have HV:Hid (bV p l=false):=by show _=_;rw[HE2.o,HT.o];rfl
       go_wp2_with fail;go_ret;exact⟨aI HV.o.symm,by rw[mF.o];exact B0.o.trans (B2.o.mono hsz0)⟩
      case false=>
       cases h10:(n.t.kind==10);case true=>
        have HT:Hid (fE p n.t=false):=pJ (by simp at h10;simp[h10]);have HV:Hid (bV p l=false):=by show _=_;rw[HE2.o,HT.o];rfl
        go_wp2_with fail;go_ret;exact⟨aI HV.o.symm,by rw[mF.o];exact B0.o.trans (B2.o.mono hsz0)⟩
       case false=>
        cases h8:(n.t.kind==8);case true=>
         have HT:Hid (fE p n.t=false):=pJ (by simp at h8;simp[h8]);have HV:Hid (bV p l=false):=by show _=_;rw[HE2.o,HT.o];rfl
         go_wp2_with fail;go_ret;exact⟨aI HV.o.symm,by rw[mF.o];exact B0.o.trans (B2.o.mono hsz0)⟩
        case false=>
         cases h9:(n.t.kind==9);case true=>
          have HT:Hid (fE p n.t=false):=pJ (by simp at h9;simp[h9]);have HV:Hid (bV p l=false):=by show _=_;rw[HE2.o,HT.o];rfl
          go_wp2_with fail;go_ret;exact⟨aI HV.o.symm,by rw[mF.o];exact B0.o.trans (B2.o.mono hsz0)⟩
         case false=>
          have HT0:Hid (fE p n.t=if n.t.kind=15 then !decide (closing n.t=aA)||nJ n.t.word else if n.t.kind=2 then p.texts else if n.t.kind=11 then p.au.contains (small n.t.word) else true):=Wy h3 h12 h13 h10 h8 h9;cases h15:(n.t.kind==15);case false=>
           have n15:¬n.t.kind=15:=by simpa using h15
           cases h2:(n.t.kind==2);case false=>
            have n2:¬n.t.kind=2:=by simpa using h2
            cases h11:(n.t.kind==11);case false=>
             have n11:¬n.t.kind=11:=by simpa using h11
             have HT:Hid (fE p n.t=true):=by show _=_;rw[HT0.o,if_neg n15,if_neg n2,if_neg n11]
             clear HT0 n15 n2 n11;go_wp2_with fail;go_meet
             exact⟨X2.o,HT.o⟩
            case true=>
             have y11:n.t.kind=11:=by simpa using h11
             have HT1:Hid (fE p n.t=p.au.contains (small n.t.word)):=by show _=_;rw[HT0.o,if_neg n15,if_neg n2,if_pos y11]
             clear HT0 n15 n2 y11;have SA:Hid (Below wr.heap.size wr w2.drew):=X2.o.drew;go_wp2_with fail;refine wp_region_any (by kernel_rfl) ?_;change wpAny _ _ _ _ _ _ _ (World.drew _);refine wpAny_of_held (S:=fun wq=>Below wr.heap.size wr wq) _ _ _ _ ?_;refine bY 0 rfl SA.o (by intro w hSw;obtain⟨q0,q1,q2,q3,q4,q5⟩:=(TT.o _ hSw).cs;exact gs) ?_;refine bY 1 rfl SA.o (by intro w hSw;obtain⟨q0,q1,q2,q3,q4,q5⟩:=(TT.o _ hSw).cs;exact gs) ?_;refine bY 2 rfl SA.o (by intro w hSw;obtain⟨q0,q1,q2,q3,q4,q5⟩:=(TT.o _ hSw).cs;exact gs) ?_;refine jh 3 fun K hK=>?_;go_simp;refine pmb (gW n.t.word _ hwd) fun w3 hb3=>?_;have X3:Hid (Below wr.heap.size wr w3):=SA.o.trans (hb3.mono (by show wr.heap.size<=w2.heap.size;exact X2.o.size))
             have B3:Hid (Below w0.heap.size w0 w3):=BR.o.trans (X3.o.mono hsr);clear hb3;refine hK.o _ _ X3.o (fun _=>?_);clear hK K;have HW:=Fh _ _ _ (small n.t.word) w3 (Ot.o.below B3.o oo).au;obtain⟨z,Hz⟩:∃z,Hid (p.au.contains (small n.t.word)=z):=⟨_,hid rfl⟩;rw[Hz.o]at HW HT1;have HW':Hid (Calls prog 58 #[.slice fa p.au.length fc,.string (small n.t.word)] w3 fun e w'=>e=.returned (.bool z)/\w'=w3):=HW;clear HW;refine jh 4 fun K hK=>?_;go_simp;refine HW'.o.mono ?_;rintro e wq ⟨rfl,hwq⟩;rw[hwq];clear hwq HW';refine hK.o _ _ X3.o (fun _=>?_);clear hK K;refine jh 5 fun K hK=>?_;go_simp;refine hK.o _ _ (X3.o) (fun _=>?_);clear hK K;refine wpAnyH_done (by kernel_rfl) ?_ _;cases z;case true=>
              have HT:Hid (fE p n.t=true):=HT1.o;go_wp2_with fail;go_meet
              exact⟨X3.o,HT.o⟩
             case false=>
              have HT:Hid (fE p n.t=false):=HT1.o;have HV:Hid (bV p l=false):=by show _=_;rw[HE2.o,HT.o];rfl
              go_wp2_with fail;go_ret;exact⟨aI HV.o.symm,by rw[mF.o];exact B0.o.trans (B3.o.mono hsz0)⟩
           case true=>
            have y2:n.t.kind=2:=by simpa using h2
            have HT1:Hid (fE p n.t=p.texts):=by show _=_;rw[HT0.o,if_neg n15,if_pos y2]
            clear HT0 n15 y2;obtain⟨q0,q1,q2,q3,q4,q5⟩:=(TT.o _ X2.o).cs;obtain⟨tx,PK⟩:∃z,Hid (p.texts=z):=⟨_,hid rfl⟩;rw[PK.o]at q5 HT1;cases tx;case true=>
             have HT:Hid (fE p n.t=true):=HT1.o;go_wp2_with fail;go_meet
             exact⟨X2.o,HT.o⟩
            case false=>
             have HT:Hid (fE p n.t=false):=HT1.o;have HV:Hid (bV p l=false):=by show _=_;rw[HE2.o,HT.o];rfl
             go_wp2_with fail;go_ret;exact⟨aI HV.o.symm,by rw[mF.o];exact B0.o.trans (B2.o.mono hsz0)⟩
          case true=>
           have y15:n.t.kind=15:=by simpa using h15
           have HT1:Hid (fE p n.t=(!decide (closing n.t=aA)||nJ n.t.word)):=by show _=_;rw[HT0.o,if_pos y15]
           have tY:Hid (nJ n.t.word=((n.t.word.toList==[43])||(n.t.word.toList==[45])||(n.t.word.toList==[42])||(n.t.word.toList==[47])||(n.t.word.toList==[46])||(n.t.word.toList==[44])||(n.t.word.toList==[37])||(n.t.word.toList==[61])||(n.t.word.toList==[58]))):=PI _;clear HT0 y15;go_wp2_with fail;refine pmb (qN n.t _) fun w3 hb3=>?_;have X3:Hid (Below wr.heap.size wr w3):=X2.o.trans (hb3.mono X2.o.size);have B3:Hid (Below w0.heap.size w0 w3):=BR.o.trans (X3.o.mono hsr);have A4:Hid (Q3 68 w3 gt (.int .i64 n.t.kind) (.string n.t.word) (.string n.t.unit)):=A3.o.below hb3;clear hb3 a0 a1 a2;obtain⟨a0,a1,a2⟩:=A4.o.cs;cases hc:(closing n.t).toList==([]:List UInt8);case false=>
            have HT:Hid (fE p n.t=true):=by
             show _=_;have hc':¬closing n.t=aA:=by rw[aH]at hc;simpa[aA]using hc
             rw[HT1.o,decide_eq_false hc'];rfl
            have hcb:((closing n.t).toList != ([]:List UInt8))=true:=by rw[bne,hc];rfl
            clear HT1 tY;go_wp2_with fail;go_meet
            exact⟨X3.o,HT.o⟩
           case true=>
            have HT2:Hid (fE p n.t=nJ n.t.word):=by
             show _=_;have hc':closing n.t=aA:=by rw[aH]at hc;simpa[aA]using hc
             rw[HT1.o,decide_eq_true hc'];rfl
            have hcb:((closing n.t).toList != ([]:List UInt8))=false:=by rw[bne,hc];rfl
            clear HT1;cases b0:(n.t.word.toList==[43]);case true=>
             have HT:Hid (fE p n.t=true):=by show _=_;rw[HT2.o,tY.o,b0];rfl
             have e0:(n.t.word.toList != [43])=false:=by rw[bne,b0];rfl
             clear HT2 tY;go_wp2_with fail;go_meet
             exact⟨X3.o,HT.o⟩
            case false=>
             have e0:(n.t.word.toList != [43])=true:=by rw[bne,b0];rfl
             cases b1:(n.t.word.toList==[45]);case true=>
              have HT:Hid (fE p n.t=true):=by show _=_;rw[HT2.o,tY.o,b0,b1];rfl
              have e1:(n.t.word.toList != [45])=false:=by rw[bne,b1];rfl
              clear HT2 tY;go_wp2_with fail;go_meet
              exact⟨X3.o,HT.o⟩
             case false=>
              have e1:(n.t.word.toList != [45])=true:=by rw[bne,b1];rfl
              cases b2:(n.t.word.toList==[42]);case true=>
               have HT:Hid (fE p n.t=true):=by show _=_;rw[HT2.o,tY.o,b0,b1,b2];rfl
               have e2:(n.t.word.toList != [42])=false:=by rw[bne,b2];rfl
               clear HT2 tY;go_wp2_with fail;go_meet
               exact⟨X3.o,HT.o⟩
              case false=>
               have e2:(n.t.word.toList != [42])=true:=by rw[bne,b2];rfl
               cases b3:(n.t.word.toList==[47]);case true=>
                have HT:Hid (fE p n.t=true):=by show _=_;rw[HT2.o,tY.o,b0,b1,b2,b3];rfl
                have e3:(n.t.word.toList != [47])=false:=by rw[bne,b3];rfl
                clear HT2 tY;go_wp2_with fail;go_meet
                exact⟨X3.o,HT.o⟩
               case false=>
                have e3:(n.t.word.toList != [47])=true:=by rw[bne,b3];rfl
                cases b4:(n.t.word.toList==[46]);case true=>
                 have HT:Hid (fE p n.t=true):=by show _=_;rw[HT2.o,tY.o,b0,b1,b2,b3,b4];rfl
                 have e4:(n.t.word.toList != [46])=false:=by rw[bne,b4];rfl
                 clear HT2 tY;go_wp2_with fail;go_meet
                 exact⟨X3.o,HT.o⟩
                case false=>
                 have e4:(n.t.word.toList != [46])=true:=by rw[bne,b4];rfl
                 cases b5:(n.t.word.toList==[44]);case true=>
                  have HT:Hid (fE p n.t=true):=by show _=_;rw[HT2.o,tY.o,b0,b1,b2,b3,b4,b5];rfl
                  have e5:(n.t.word.toList != [44])=false:=by rw[bne,b5];rfl
                  clear HT2 tY;go_wp2_with fail;go_meet
                  exact⟨X3.o,HT.o⟩
                 case false=>
                  have e5:(n.t.word.toList != [44])=true:=by rw[bne,b5];rfl
                  cases b6:(n.t.word.toList==[37]);case true=>
                   have HT:Hid (fE p n.t=true):=by show _=_;rw[HT2.o,tY.o,b0,b1,b2,b3,b4,b5,b6];rfl
                   have e6:(n.t.word.toList != [37])=false:=by rw[bne,b6];rfl
                   clear HT2 tY;go_wp2_with fail;go_meet
                   exact⟨X3.o,HT.o⟩
                  case false=>
                   have e6:(n.t.word.toList != [37])=true:=by rw[bne,b6];rfl
                   cases b7:(n.t.word.toList==[61]);case true=>
                    have HT:Hid (fE p n.t=true):=by show _=_;rw[HT2.o,tY.o,b0,b1,b2,b3,b4,b5,b6,b7];rfl
                    have e7:(n.t.word.toList != [61])=false:=by rw[bne,b7];rfl
                    clear HT2 tY;go_wp2_with fail;go_meet
                    exact⟨X3.o,HT.o⟩
                   case false=>
                    have e7:(n.t.word.toList != [61])=true:=by rw[bne,b7];rfl
                    cases b8:(n.t.word.toList==[58]);case true=>
                     have HT:Hid (fE p n.t=true):=by show _=_;rw[HT2.o,tY.o,b0,b1,b2,b3,b4,b5,b6,b7,b8];rfl
                     have e8:(n.t.word.toList != [58])=false:=by rw[bne,b8];rfl
                     clear HT2 tY;go_wp2_with fail;go_meet
                     exact⟨X3.o,HT.o⟩
                    case false=>
                     have e8:(n.t.word.toList != [58])=true:=by rw[bne,b8];rfl
                     have HT:Hid (fE p n.t=false):=by show _=_;rw[HT2.o,tY.o,b0,b1,b2,b3,b4,b5,b6,b7,b8];rfl
                     clear HT2 tY;have HV:Hid (bV p l=false):=by show _=_;rw[HE2.o,HT.o];rfl
                     go_wp2_with fail;go_ret;exact⟨aI HV.o.symm,by rw[mF.o];exact B0.o.trans (B3.o.mono hsz0)⟩
   case rest=>
   clear a0 a1 a2;have XC:Hid (Below wr.heap.size wr wc):=hcut.1;have HT:Hid (fE p n.t=true):=hcut.2;clear hcut;have BC:Hid (Below w0.heap.size w0 wc):=BR.o.trans (XC.o.mono hsr);have SX:Hid (Below wr.heap.size wr wc.drew):=XC.o.drew;have BX:Hid (Below w0.heap.size w0 wc.drew):=BC.o.drew;have HKX:Hid (Sl (fun b=>b<B) wc.drew (.slice ka n.kids.length kc) n.kids):=KH.o.below SX.o oo;have hsX:w0.heap.size<=wc.heap.size:=BC.o.size;have hsY:wr.heap.size<=wc.heap.size:=XC.o.size;have HC:=HR.o n HM.o B p (.slice pa p.props.length pc) (.slice fa p.au.length fc) (.slice aa p.ats.length ac) (.slice ka n.kids.length kc) wc.drew (Ot.o.below BX.o oo) HKX.o;obtain⟨z2,KI⟩:∃z,Hid (bV p n.kids=z):=⟨_,hid rfl⟩;have HE3:Hid (bV p l=(z2&&bV p (l.drop (i+1)))):=by show _=_;rw[HE2.o,HT.o,KI.o];rfl
   rw[KI.o]at HC;unfold dD at HC;have Ib:Hid (Calls prog 60 #[.slice ka n.kids.length kc,.agg #[.string p.root,.slice pa p.props.length pc,.slice fa p.au.length fc,.slice aa p.ats.length ac,.bool p.aO,.bool p.texts]] wc.drew fun e w'=>e=.returned (.bool z2)/\Below wc.drew.heap.size wc.drew w'):=HC;clear HC;go_wp2_with fail;refine wp_region_any (by kernel_rfl) ?_;change wpAny _ _ _ _ _ _ _ (World.drew _);refine wpAny_of_held (S:=fun wq=>Below wr.heap.size wr wq) _ _ _ _ ?_;refine bY 0 rfl SX.o (by intro w hSw;have e3:=Zx.o _ hSw;obtain⟨q0,q1,q2,q3,q4,q5⟩:=(TT.o _ hSw).cs;exact gs) ?_;refine bY 1 rfl SX.o (by intro w hSw;have e3:=Zx.o _ hSw;obtain⟨q0,q1,q2,q3,q4,q5⟩:=(TT.o _ hSw).cs;exact gs) ?_
   refine bY 2 rfl SX.o (by intro w hSw;have e3:=Zx.o _ hSw;obtain⟨q0,q1,q2,q3,q4,q5⟩:=(TT.o _ hSw).cs;exact gs) ?_;refine bY 3 rfl SX.o (by intro w hSw;have e3:=Zx.o _ hSw;obtain⟨q0,q1,q2,q3,q4,q5⟩:=(TT.o _ hSw).cs;exact gs) ?_;refine bY 4 rfl SX.o (by intro w hSw;have e3:=Zx.o _ hSw;obtain⟨q0,q1,q2,q3,q4,q5⟩:=(TT.o _ hSw).cs;exact gs) ?_;refine bY 5 rfl SX.o (by intro w hSw;have e3:=Zx.o _ hSw;obtain⟨q0,q1,q2,q3,q4,q5⟩:=(TT.o _ hSw).cs;exact gs) ?_;refine jh 6 fun K hK=>?_;go_simp;refine Ib.o.mono ?_;rintro e w9 ⟨rfl,DI⟩;have X9:Hid (Below wr.heap.size wr w9):=SX.o.trans (DI.mono (by show wr.heap.size<=wc.heap.size;omega));have B9:Hid (Below w0.heap.size w0 w9):=BX.o.trans (DI.mono (by show w0.heap.size<=wc.heap.size;omega))
   clear DI Ib;refine hK.o _ _ X9.o (fun _=>?_);clear hK K;refine jh 7 fun K hK=>?_;go_simp;refine hK.o _ _ (X9.o) (fun _=>?_);clear hK K;refine wpAnyH_done (by kernel_rfl) ?_ _;cases z2
   .have HV:Hid (bV p l=false):=HE3.o;go_wp2_with fail;go_ret;exact⟨aI HV.o.symm,by rw[mF.o];exact B0.o.trans (B9.o.mono hsz0)⟩
   .have HV:Hid (bV p l=bV p (l.drop (i+1))):=HE3.o;go_wp2_with fail;go_roundg(gk-1);case measure=>omega
    case rel=>exact⟨i+1,by congr 1,oo,B9.o,HV.o⟩
  .have h1:(l.length:Int)<=(i:Int):=oo;have HV:Hid (bV p l=true):=by show _=_;rw[HE.o,List.drop_of_length_le oo];rfl
   go_wp2_with fail;go_ret;exact⟨aI HV.o.symm,by rw[mF.o];exact B0.o.trans (BR.o.mono hsz0)⟩
theorem MP:∀(k:Nat) (l:List Nd),fB l<=k->MO l:=by
 intro k;induction k with
 |zero=>intro l h;refine CY l fun n hn=>?_;have:=nS l n hn;obtain⟨t,q⟩:=n;unfold GH at this;omega
 |succ k ih=>intro l h;refine CY l fun n hn=>ih _ ?_;have:=nS l n hn;obtain⟨t,q⟩:=n;unfold GH at this;show fB q<=k;omega
theorem Fj(l:List Nd):MO l:=MP _ l nl
section
def ni(z:Bool)(m:Nd):Bool:=(z&&aW m)||aQ m
theorem Zy:ni true=fun m=>aW m||aQ m:=by funext m;unfold ni;simp
theorem Zz:ni false=aQ:=by funext m;unfold ni;simp
def TU(z:Bool)(at_:ByteArray)(hd:List Nd)(bo:Option (List Nd)):List Rule:=if z||bo.isSome then [⟨if z then some at_ else none,hd,bo⟩] else []
theorem MQ{sh:Bool}{n:Nd}{r:List Nd}(h:qF sh n=false)(hn:n.t.kind=10->n.t.word≠aA)(z:Bool)(hz:(n.t.kind==10)=z)(c:List Nd×Option Nd×List Nd)(hc:bM (ni z) (if z then r else n::r)=c):rules sh (n::r)=TU z n.t.word c.1 (dw c.2.1)++rules sh c.2.2:=by
 subst hc;rw[IK h hn];cases z with
 |true=>
  have hk:n.t.kind=10:=by simpa using hz
  have e:iC n r=(n.t.word,(bM (fun m=>aW m||aQ m) r).1,dw (bM (fun m=>aW m||aQ m) r).2.1,(bM (fun m=>aW m||aQ m) r).2.2):=by unfold iC;rw[if_pos hk]
  rw[e,if_pos rfl,Zy];unfold lW TU;simp only;rw[if_neg (hn hk)];rfl
 |false=>
  have hk:¬n.t.kind=10:=by simpa using hz
  have e:iC n r=(aA,(bM aQ (n::r)).1,dw (bM aQ (n::r)).2.1,(bM aQ (n::r)).2.2):=by unfold iC;rw[if_neg hk]
  rw[e,if_neg (by simp),Zz];unfold lW TU;simp only[if_true];cases dw (bM aQ (n::r)).2.1<;>rfl
theorem Ai{st:Nd->Bool}{n:Nd}{r:List Nd}(h:st n=true):bM st (n::r)=([],some n,r):=by unfold bM;rw[if_pos h]
theorem JZ{st:Nd->Bool}{n:Nd}{r:List Nd}(h:st n=false):bM st (n::r)=(n::(bM st r).1,(bM st r).2):=by
 have e:bM st (n::r)=if st n=true then([],some n,r) else(n::(bM st r).1,(bM st r).2):=by conv=>lhs;unfold bM
 rw[e,if_neg (by rw[h];simp)]
theorem IZ{n:Nd}(h:aW n=true):aQ n=false:=by unfold aW aQ dY ay at *;simp only[Bool.and_eq_true,decide_eq_true_eq]at h;rw[h.2];simp[b1]
def qH(z:Bool)(c:List Nd×Option Nd×List Nd)(l:List Nd)(j:Nat)(hd bl:List Nd)(hs:Bool):Bool->Prop
 |false=>hs=false/\c=(hd++(bM (ni z) (l.drop j)).1,(bM (ni z) (l.drop j)).2)
 |true=>∃m,c=(hd,some m,l.drop j)/\hs=aQ m/\(aQ m=true->bl=m.kids)
theorem qH.step{z:Bool}{c:List Nd×Option Nd×List Nd}{l:List Nd}{j:Nat}{hd bl:List Nd}{hs:Bool}{n:Nd}(h:qH z c l j hd bl hs false)(hn:l.drop j=n::l.drop (j+1))(h1:ni z n=false):qH z c l (j+1) (hd++[n]) bl hs false:=by obtain⟨h2,h3⟩:=h;refine⟨h2,?_⟩;rw[h3,hn,JZ h1];simp
theorem qH.semi{c:List Nd×Option Nd×List Nd}{l:List Nd}{j:Nat}{hd bl:List Nd}{hs:Bool}{n:Nd}(h:qH true c l j hd bl hs false)(hn:l.drop j=n::l.drop (j+1))(h1:aW n=true):qH true c l (j+1) hd bl hs true:=by obtain⟨h2,h3⟩:=h;have hb:=IZ h1;refine⟨n,?_,by rw[h2,hb],fun h=>by rw[hb]at h;cases h⟩;rw[h3,hn,Ai (by unfold ni;rw[h1];rfl)];simp
theorem qH.body{z:Bool}{c:List Nd×Option Nd×List Nd}{l:List Nd}{j:Nat}{hd bl:List Nd}{hs:Bool}{n:Nd}(h:qH z c l j hd bl hs false)(hn:l.drop j=n::l.drop (j+1))(h1:aQ n=true):qH z c l (j+1) hd n.kids true true:=by obtain⟨h2,h3⟩:=h;refine⟨n,?_,h1.symm,fun _=>rfl⟩;rw[h3,hn,Ai (by unfold ni;rw[h1];simp)];simp
theorem qH.done{z:Bool}{c:List Nd×Option Nd×List Nd}{l:List Nd}{j:Nat}{hd bl:List Nd}{hs dn:Bool}(h:qH z c l j hd bl hs dn)(hj:dn=false->l.length<=j):hd=c.1/\hs=(dw c.2.1).isSome/\(∀b,dw c.2.1=some b->bl=b)/\l.drop j=c.2.2:=by
 cases dn with
 |false=>obtain⟨h2,h3⟩:=h;have e:l.drop j=[]:=List.drop_of_length_le (hj rfl);rw[e]at h3⊢;rw[h3];refine⟨by simp[bM],h2,fun b hb=>?_,rfl⟩;simp[bM,dw]at hb
 |true=>
  obtain⟨m,h2,h3,h4⟩:=h;rw[h2];refine⟨rfl,?_,fun b hb=>?_,rfl⟩
  .rw[h3];unfold dw;simp only;cases aQ m<;>rfl
  .unfold dw at hb;simp only at hb;by_cases hm:aQ m=true
   .rw[if_pos hm]at hb;cases hb;exact h4 hm
   .rw[if_neg hm]at hb;cases hb
theorem qH.len{z:Bool}{c:List Nd×Option Nd×List Nd}{l:List Nd}{j:Nat}{hd bl:List Nd}{hs dn:Bool}(h:qH z c l j hd bl hs dn):hd.length<=c.1.length:=by
 cases dn with
 |false=>rw[h.2];simp
 |true=>obtain⟨m,h2,_⟩:=h;rw[h2];exact Nat.le_refl _
theorem BJ(st:Nd->Bool):∀(l:List Nd),(bM st l).1.length<=l.length
 |[]=>by simp[bM]
 |n::r=>by
  unfold bM;split
  .simp
  .have:=BJ st r;simp only[List.length_cons];omega
def GI:ug Rule:=fun S w r cs=>∃av hv bv bl,cs=[.string av,.bool r.at_.isSome,hv,bv,.bool r.body.isSome]/\Sl S w hv r.head/\Sl S w bv bl/\(∀b,r.body=some b->bl=b)/\(∀x,r.at_=some x->x=av)/\av.size<=4000000
theorem GI.fair:Fair GI:=by rintro S S' w w' r cs hS hw ⟨av,hv,bv,bl,h1,h2,h3,h4,h5⟩;exact⟨av,hv,bv,bl,h1,h2.keep hS hw,h3.keep hS hw,h4,h5⟩
theorem GI.sized:qG GI 5:=by rintro S w r cs ⟨av,hv,bv,bl,rfl,_⟩;rfl
theorem ZA:∃i,prog.info? 110=some i/\i.zero=some (.agg #[.string ⟨#[]⟩,.bool false,.slice none 0 0,.slice none 0 0,.bool false])/\i.size=5/\i.bytes=80:=info_parts (by kernel_rfl)
def Q5(T:TypeId)(w:World)(b:Nat)(x0 x1 x2 x3 x4:Value):Prop:=w.heap[b]?=some (.cells #[x0,x1,x2,x3,x4] T (0,0))
section
variable {T:TypeId} {w w':World} {b:Nat} {x0 x1 x2 x3 x4:Value}
theorem Q5.lt(h:Q5 T w b x0 x1 x2 x3 x4):b<w.heap.size:=(Array.getElem?_eq_some_iff.1 h).1
theorem Q5.cs(h:Q5 T w b x0 x1 x2 x3 x4):w.cell? ⟨b,0,none⟩=some x0/\w.cell? ⟨b,1,none⟩=some x1/\w.cell? ⟨b,2,none⟩=some x2/\w.cell? ⟨b,3,none⟩=some x3/\w.cell? ⟨b,4,none⟩=some x4:=by have h':w.heap[b]?=_:=h;refine⟨?_,?_,?_,?_,?_⟩<;>(unfold World.cell?;rw[h'];rfl)
theorem Q5.fz(h:Q5 T w b x0 x1 x2 x3 x4)(o:Nat):w.frozen? ⟨b,o,none⟩=false:=by have h':w.heap[b]?=_:=h;unfold World.frozen?;rw[h'];simp
theorem Q5.keep(h:Q5 T w b x0 x1 x2 x3 x4)(e:w'.heap[b]?=w.heap[b]?):Q5 T w' b x0 x1 x2 x3 x4:=by show _=_;rw[e];exact h
theorem Q5.below(h:Q5 T w b x0 x1 x2 x3 x4)(hb:Below w.heap.size w w'):Q5 T w' b x0 x1 x2 x3 x4:=h.keep (hb.block b h.lt)
theorem Q5.new(T:TypeId)(w:World)(x0 x1 x2 x3 x4:Value):Q5 T (w.alloc (.cells #[x0,x1,x2,x3,x4] T)) w.heap.size x0 x1 x2 x3 x4:=heap_alloc_new w _
theorem Q5.set2(h:Q5 T w b x0 x1 x2 x3 x4)(x:Value):Q5 T (w.setCell ⟨b,2,none⟩ x) b x0 x1 x x3 x4:=by have h':w.heap[b]?=_:=h;show _=_;simp only[World.setCell,Array.getElem?_modify,h'];simp
theorem Q5.jr(h:Q5 T w b x0 x1 x2 x3 x4)(x:Value):Q5 T (w.setCell ⟨b,3,none⟩ x) b x0 x1 x2 x x4:=by have h':w.heap[b]?=_:=h;show _=_;simp only[World.setCell,Array.getElem?_modify,h'];simp
theorem Q5.nC(h:Q5 T w b x0 x1 x2 x3 x4)(x:Value):Q5 T (w.setCell ⟨b,4,none⟩ x) b x0 x1 x2 x3 x:=by have h':w.heap[b]?=_:=h;show _=_;simp only[World.setCell,Array.getElem?_modify,h'];simp
end
theorem aaE(w:World)(a b c d e:Value)(t:TypeId):∀j u,[a,b,c,d,e][j]?=some u->(w.alloc (.cells #[a,b,c,d,e] t)).cell? ((⟨w.heap.size,0,none⟩:Addr).add j)=some u:=by intro j u hu;rw[Addr.add_lit,Nat.zero_add,World.cell?_alloc_mark,<-hu];simp
structure RrI(B:Nat)(sh:Bool)(w:World)(l:List Nd)(u:Value)(acc:List Rule)(cs:List Value)(i:Nat)(wr:World):Prop where
 row:wr.ownsRow w.heap.size 110 5 u acc.length cs
 cat:jv GI (oO 0 wr u) wr acc cs
 below:Below w.heap.size w wr
 eq:rules sh l=acc++rules sh (l.drop i)
 ln:acc.length<=i
structure BK(B gb:Nat)(z:Bool)(w0:World)(l:List Nd)(at_:ByteArray)(c:List Nd×Option Nd×List Nd)(hv bv:Value)(hd bl:List Nd)(hs:Bool)(cs:List Value)(j:Nat)(dn:Bool)(wr:World):Prop where
 own:Q5 110 wr gb (.string at_) (.bool z) hv bv (.bool hs)
 row:wr.ownsRow (gb+1) 134 4 hv hd.length cs
 kc:kY (fun b=>b<B) wr hd cs
 bs:Sl (fun b=>b<B) wr bv bl
 below:Below gb w0 wr
 rd:qH z c l j hd bl hs dn
theorem BK.head{B gb:Nat}{z:Bool}{w0:World}{l:List Nd}{at_:ByteArray}{c:List Nd×Option Nd×List Nd}{hv bv:Value}{hd bl:List Nd}{hs:Bool}{cs:List Value}{j:Nat}{dn:Bool}{wr:World}(h:BK B gb z w0 l at_ c hv bv hd bl hs cs j dn wr)(h6:hd.length<=600):Sl (fun b=>b<B\/(gb+1<=b/\b<wr.heap.size)) wr hv hd:=by
 have h3:kY (fun b=>b<B\/(gb+1<=b/\b<wr.heap.size)) wr hd cs:=h.kc.keep (fun g hg=>.inl hg) (fun _ _=>rfl);rcases h.row.2 with⟨rfl,hn⟩|⟨g,cap,cur,rfl,hbg,hg,hnc,hrest⟩
 .have:hd=[]:=List.eq_nil_of_length_eq_zero hn;subst this;exact Sl.nil _ _
 .refine⟨_,cap,rfl,⟨hnc,h6⟩,fun _=>⟨g,0,rfl,kY.lies (S:=fun b=>b<B\/(gb+1<=b/\b<wr.heap.size)) (.inr ⟨hbg,(Array.getElem?_eq_some_iff.1 hg).1⟩) hd cs 0 h3 fun j u hu=>?_⟩⟩;have:=h.row.cells (g:=g) rfl j u hu;rw[Addr.add_lit,Nat.zero_add]at this;rw[Nat.zero_add];exact this
end
end Go.Proofs.YtlliliddljkbfaaGreatDoor
