import Derived.Test.YtlliliddljkbfaaGreatC32
set_option maxHeartbeats 64000000
set_option maxRecDepth 100000
namespace Go.Proofs.YtlliliddljkbfaaGreat
open Go.Proofs.Tryz (prog)
open Go.RowKit Sp
theorem uP{y:BY}(h:dK y=true):y.size<=24/\∀i,i<y.size->pk y i<128:=by
 unfold dK at h;rw[Bool.and_eq_true,List.all_eq_true,decide_eq_true_eq]at h;refine⟨h.2,fun i hi=>?_⟩;rw[zK hi];have:=h.1 y[i] (by have h2:y.data.toList[i]?=some y[i]:=Lib.data_getElem? y i hi;exact List.mem_of_getElem? h2)
 unfold oC at this;simp only[Bool.or_eq_true,Bool.and_eq_true,decide_eq_true_eq,beq_iff_eq]at this;rcases this with ((⟨_,h2⟩|⟨_,h2⟩)|h2)|h2
 .omega
 .omega
 .rw[h2];decide
 .rw[h2];decide
def EZ(t:Nat->Int):lI:=fun how v y=>
 if how=⟨#[61]⟩ then decide (y=v) else if how=⟨#[126,61]⟩ then(P7 t y).contains v
 else if how=⟨#[94,61]⟩ then(if v=aA then false else Lib.hasPrefix y.data.toList v.data.toList)
 else if how=⟨#[36,61]⟩ then(if v=aA then false else Lib.hasSuffix y.data.toList v.data.toList)
 else if how=⟨#[42,61]⟩ then(if v=aA then false else Lib.contains y.data.toList v.data.toList) else true
theorem abM(t:Nat->Int)(y:BY):Lib.cellsOf (Gs t y) (qm t y)=((P7 t y).map Value.string).toArray:=by unfold Lib.cellsOf P7;rw[List.map_append,List.map_replicate]
theorem afA{t:Nat->Int}(ht:U0 t)(y:BY):(P7 t y).length=qm t y:=by have:=afy ht y;unfold P7;rw[List.length_append,List.length_replicate];omega
theorem ahZ(t:Nat->Int)(x y:BY)(w:WD)(ht:U0 t)(hy:dK y=true):
  Calls prog 188 #[.slice (some ⟨w.heap.size,0,none⟩) (qm t y) (qm t y),.string x] (w.alloc (.cells (Lib.cellsOf (Gs t y) (qm t y)) 9)) fun e w'=>e=.returned (.bool ((P7 t y).contains x))/\w'=w.alloc (.cells (Lib.cellsOf (Gs t y) (qm t y)) 9):=by
 have hl:=afA ht y;have hN:qm t y<=6120:=by have:=ZL ht y y.size 0 1 oo oo;have:=(uP hy).1;unfold qm;omega
 have:=Tryz.slices_Contains_string w.heap.size 0 (qm t y) (qm t y) (P7 t y) x (w.alloc (.cells (Lib.cellsOf (Gs t y) (qm t y)) 9)) oo oo (fun j hj=>by have e:=heap_alloc_new w (.cells (Lib.cellsOf (Gs t y) (qm t y)) 9);unfold World.cell?;rw[e,abM];simp[hj])
 rw[List.take_of_length_le oo,y9,<-vV]at this;exact this
theorem uQ(v:BY):v.toList.isEmpty=decide (v=aA):=by rw[show decide (v=aA)=(v.toList==[]) from(ay v []).symm];cases v.toList<;>rfl
theorem akB(t:Nat->Int)(nm how v y:BY)(w:WD)(hl:Lit w)(ht:Gq t w)(hy:dK y=true):
  Calls prog 346 #[.agg #[.string nm,.string how,.string v],.string y] w fun ex w''=>ex=.returned (.bool (EZ t how v y))/\Below w.heap.size w w'':=by
 have HY:=hid hy;have B0:Hid (Below w.heap.size w (w.alloc (.cells #[.string nm,.string how,.string v] 341))):=Ax.alloc nl _;have HB:Hid (U0 t):=fun k hk=>(ht k hk).2;have HT:Hid (Gq t (w.alloc (.cells #[.string nm,.string how,.string v] 341))):=ht.below B0.o;have HL:=hid (hl.below B0.o);obtain⟨r,HR⟩:=Nm (EZ t how v y);rw[HR.o];clear hy ht hl;have HC:Hid (∀w5,Below (w.heap.size+1) (w.alloc (.cells #[.string nm,.string how,.string v] 341)) w5->w5.cell? ⟨w.heap.size,2,none⟩=some (.string v)):=fun w5 hb=>by
  have e:(w.alloc (.cells #[.string nm,.string how,.string v] 341)).cell? ⟨w.heap.size,2,none⟩=some (.string v):=by have:=heap_alloc_new w (.cells #[.string nm,.string how,.string v] 341);unfold World.cell?;rw[this];rfl
  exact(World.cell?_of_block (w:=w.alloc (.cells #[.string nm,.string how,.string v] 341)) (hb.block w.heap.size oo)).trans e
 have BA:Hid (∀w5,Below (w.heap.size+1) (w.alloc (.cells #[.string nm,.string how,.string v] 341)) w5->Below w.heap.size w w5):=fun w5 hb=>B0.o.trans (hb.mono oo);have HF:Hid (∀w5,Below (w.heap.size+1) (w.alloc (.cells #[.string nm,.string how,.string v] 341)) w5->w5.heap.size=w.heap.size+1->Calls prog 347 #[.string y] w5 fun ex w'=>
   ex=.returned (.slice (some ⟨w.heap.size+1,0,none⟩) (qm t y) (qm t y))/\w'.cell? ⟨w.heap.size,2,none⟩=some (.string v)/\Hid (Below w.heap.size w w') /\
    Hid (Calls prog 188 #[.slice (some ⟨w.heap.size+1,0,none⟩) (qm t y) (qm t y),.string v] w' fun e w''=>e=.returned (.bool ((P7 t y).contains v))/\w''=w')):=fun w5 hb hz=>by
  refine(afz t y w5 (uP HY.o).1 (uP HY.o).2 (HT.o.below (by simpa using hb))).mono ?_;rintro e w6 ⟨rfl,rfl⟩;have hs:w.heap.size+1<=w5.heap.size:=by have:=hb.size;simpa using this
  have hb6:Below (w.heap.size+1) (w.alloc (.cells #[.string nm,.string how,.string v] 341)) (w5.alloc (.cells (Lib.cellsOf (Gs t y) (qm t y)) 9)):=hb.alloc hs _;have hq:=ahZ t v y w5 HB.o HY.o;rw[hz]at hq⊢;exact⟨rfl,HC.o _ hb6,hid (BA.o _ hb6),hid hq⟩
 go_in;by_cases h1:how=⟨#[61]⟩
 .subst h1;go_wp2_with fail;go_ret;refine⟨aC ?_,B0.o⟩;rw[<-HR.o,bytes_beq];unfold EZ;rw[if_pos rfl]
 have e1:(how.toList==[61])=false:=by rw[ay];exact decide_eq_false h1
 by_cases h2:how=⟨#[126,61]⟩
 .have e2:(how.toList==[126,61])=true:=by rw[ay];exact decide_eq_true h2
  have HE:Hid ((P7 t y).contains v=r):=hid (by rw[<-HR.o];unfold EZ;rw[if_neg h1,if_pos h2]);clear h1 h2;go_upto_region 5 with fail
  clear e1 e2;have c5:=HC.o _ Ax;go_region_with (first
   |(go_at_call 347;refine(HF.o _ (by first|exact Below.refl _ _|exact Ax.drew) Ab).mono ?_;rintro e w5 ⟨rfl,c6,B5,HW⟩)
   |(go_at_call 188;refine HW.o.mono ?_;rintro e w6 ⟨rfl,hw6⟩;subst hw6))
  all_goals
   go_wp2_with fail;go_ret;exact⟨aC HE.o,B5.o⟩
 have e2:(how.toList==[126,61])=false:=by rw[ay];exact decide_eq_false h2
 by_cases h3:how=⟨#[94,61]⟩
 .have e3:(how.toList==[94,61])=true:=by rw[ay];exact decide_eq_true h3
  have HE:Hid ((if v=aA then false else Lib.hasPrefix y.data.toList v.data.toList)=r):=hid (by rw[<-HR.o];unfold EZ;rw[if_neg h1,if_neg h2,if_pos h3]);clear h1 h2 h3;by_cases hv:v=aA
  .have hv0:v.toList.isEmpty=true:=by rw[uQ];exact decide_eq_true hv
   rw[if_pos hv]at HE;clear hv;go_wp2_with fail;go_ret;exact⟨aC HE.o,B0.o⟩
  .have hv0:v.toList.isEmpty=false:=by rw[uQ];exact decide_eq_false hv
   rw[if_neg hv]at HE;clear hv;go_wp2_with fail;refine pmb (Tryz.strings_HasPrefix _ _ _) fun wq hwq=>?_;rw[hwq];go_wp2_with fail;go_ret;exact⟨aC HE.o,B0.o⟩
 have e3:(how.toList==[94,61])=false:=by rw[ay];exact decide_eq_false h3
 by_cases h4:how=⟨#[36,61]⟩
 .have e4:(how.toList==[36,61])=true:=by rw[ay];exact decide_eq_true h4
  have HE:Hid ((if v=aA then false else Lib.hasSuffix y.data.toList v.data.toList)=r):=hid (by rw[<-HR.o];unfold EZ;rw[if_neg h1,if_neg h2,if_neg h3,if_pos h4]);clear h1 h2 h3 h4;by_cases hv:v=aA
  .have hv0:v.toList.isEmpty=true:=by rw[uQ];exact decide_eq_true hv
   rw[if_pos hv]at HE;clear hv;go_wp2_with fail;go_ret;exact⟨aC HE.o,B0.o⟩
  .have hv0:v.toList.isEmpty=false:=by rw[uQ];exact decide_eq_false hv
   rw[if_neg hv]at HE;clear hv;have hy4:y.size<=9223372036854775807:=by have:=(uP HY.o).1;omega
   go_wp2_with fail;refine pmb (Tryz.strings_HasSuffix _ _ _ hy4) fun wq hwq=>?_;rw[hwq];go_wp2_with fail;go_ret;exact⟨aC HE.o,B0.o⟩
 have e4:(how.toList==[36,61])=false:=by rw[ay];exact decide_eq_false h4
 by_cases h5:how=⟨#[42,61]⟩
 .have e5:(how.toList==[42,61])=true:=by rw[ay];exact decide_eq_true h5
  have HE:Hid ((if v=aA then false else Lib.contains y.data.toList v.data.toList)=r):=hid (by rw[<-HR.o];unfold EZ;rw[if_neg h1,if_neg h2,if_neg h3,if_neg h4,if_pos h5]);clear h1 h2 h3 h4 h5;by_cases hv:v=aA
  .have hv0:v.toList.isEmpty=true:=by rw[uQ];exact decide_eq_true hv
   rw[if_pos hv]at HE;clear hv;go_wp2_with fail;go_ret;exact⟨aC HE.o,B0.o⟩
  .have hv0:v.toList.isEmpty=false:=by rw[uQ];exact decide_eq_false hv
   rw[if_neg hv]at HE;clear hv;have hy4:y.size<4294967281:=by have:=(uP HY.o).1;omega
   obtain⟨⟨m,hm⟩,_⟩:=HL.o;go_wp2_with fail;refine pmb (Tryz.strings_Contains _ _ m _ hy4 hm) fun wq hwq=>?_;rw[hwq];go_wp2_with fail;go_ret;exact⟨aC HE.o,B0.o⟩
 have e5:(how.toList==[42,61])=false:=by rw[ay];exact decide_eq_false h5
 have HE:Hid (true=r):=hid (by rw[<-HR.o];unfold EZ;rw[if_neg h1,if_neg h2,if_neg h3,if_neg h4,if_neg h5]);clear h1 h2 h3 h4 h5;go_wp2_with fail;go_ret;exact⟨aC HE.o,B0.o⟩
theorem ZM(t:Nat->Int)(w:WD)(hl:Lit w)(ht:Gq t w):pJ (EZ t) w:=fun nm how v y w' hy hb=>akB t nm how v y w' (hl.below hb) (ht.below hb) hy
theorem abN:prog.cellTypes prog.depth 367=some (List.replicate 256 5):=by kernel_rfl
theorem ah0(W:WD)(hsh:W.ShapedOpen prog):∃t,Gq t W:=by
 have h0:((begin prog (fun _ _=>0) default).world.heap[1]?).bind Obj.row?=some (Array.replicate 256 (.int .u8 0),367):=by kernel_rfl
 obtain⟨cs,hh,hs,hr⟩:=hsh.1 1 _ 367 (of_decide_eq_true Ao) h0;obtain⟨ts,hts,_,hall⟩:=hr Ao;rw[abN]at hts;cases hts;have amV:cs.size=256:=by rw[hs];simp
 have key:∀k,k<256->∃m,W.cell? ⟨1,k,none⟩=some (.int .u8 m)/\0<=m/\m<256:=fun k hk=>by
  have h1:k<cs.size:=oo;obtain⟨u,hu',hok⟩:=hall k cs[k] (by simp[h1]);have:u=5:=by rw[List.getElem?_replicate,if_pos (by simp;omega)]at hu';exact(Option.some.inj hu').symm
  subst this;have hcell:W.cell? ⟨1,k,none⟩=some cs[k]:=by simp[World.cell?,hh,h1]
  rw[hcell];unfold Cell.ok at hok;rw[Tryz.underlying5]at hok;cases hv:cs[k]<;>rw[hv]at hok<;>simp at hok
  case int k' n=>have h2:=hok;obtain⟨rfl,h3⟩:=hok;have h4:IntKind.u8.min<=n/\n<=IntKind.u8.max:=h3;rw[show IntKind.u8.min=0 from rfl,show IntKind.u8.max=255 from rfl]at h4;exact⟨n,rfl,oo,oo⟩
 refine⟨fun k=>if h:k<256 then(key k h).choose else 0,fun k hk=>?_⟩;show W.cell? ⟨1,k,none⟩=some (Value.int .u8 (if h:k<256 then(key k h).choose else 0))/\0<=(if h:k<256 then(key k h).choose else 0)/\(if h:k<256 then(key k h).choose else 0)<256;rw[dif_pos hk];exact(key k hk).choose_spec
