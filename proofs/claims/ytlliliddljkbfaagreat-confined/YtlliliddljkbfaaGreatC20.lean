import Derived.Test.YtlliliddljkbfaaGreatC19
set_option maxHeartbeats 64000000
set_option maxRecDepth 100000
namespace Go.Proofs.YtlliliddljkbfaaGreat
open Go.Proofs.Tryz (prog)
open Go.RowKit Sp
theorem cells_at{w:WD}{b:Nat}{cs:Array Av}{T:TypeId}(h:w.heap[b]?=some (.cells cs T (0,0)))(i:Nat):w.cell? ⟨b,i,none⟩=cs[i]?:=by unfold World.cell?;rw[h];simp
theorem Pg{S:Nat->Prop}{w:WD}{b:Nat}(hS:S b):∀(l:List BY) (o:Nat),(∀i (h:i<l.length),w.cell? ⟨b,o+i,none⟩=some (.string l[i]))->(∀s∈l,s.size<=4194304)->LG eX 1 S w l b o
 |[],_,_,_=>by simp[LG]
 |s::r,o,h,hz=>by
  refine⟨⟨hS,[.string s],⟨rfl,hz s List.mem_cons_self⟩,fun j u hu=>?_⟩,Pg hS r (o+1) (fun i hi=>?_) (fun x hx=>hz x (List.mem_cons_of_mem _ hx))⟩
  .match j,hu with
   |0,hu=>cases hu;exact h 0 Ab
  .have:=h (i+1) (by simpa using hi);rw[show o+1+i=o+(i+1) by omega];exact this
theorem Ph{S:Nat->Prop}{w:WD}{b:Nat}{l:List BY}{n cap:Nat}(hn:n=l.length)(hS:S b)(hc:l.length<=cap)(h6:l.length<=2097152)(h:∀i (h:i<l.length),w.cell? ⟨b,0+i,none⟩=some (.string l[i]))(hz:∀s∈l,s.size<=4194304):SG eX 1 S w (.slice (some ⟨b,0,none⟩) n cap) l:=by subst hn;exact⟨_,cap,rfl,⟨hc,h6⟩,fun _=>⟨b,0,rfl,Pg hS l 0 h hz⟩⟩
theorem TG{w w':WD}{base:Nat}{e:TypeId}{size:Nat}{v:Av}{n:Nat}{xs:List Av}(h:w.ownsRow base e size v n xs)(hb:Below w.heap.size w w'):w'.ownsRow base e size v n xs:=by
 refine⟨h.1,?_⟩;rcases h.2 with hn|⟨g,cap,cur,rfl,hbg,hgg,rest⟩
 .exact .inl hn
 .refine .inr ⟨g,cap,cur,rfl,hbg,?_,rest⟩;rw[hb.block g (Ay hgg)];exact hgg
theorem Za{w:WD}{base b:Nat}{T:TypeId}{n:Nat}(l:List BY)(hn:n=l.length)(h:w.heap[b]?=some (.cells (l.map Value.string).toArray T (0,0)))(hb:base<=b)(hl:n<=100):w.ownsRow base T 1 (.slice (some ⟨b,0,none⟩) n n) n (l.map Value.string):=by subst hn;exact⟨by simp,.inr ⟨b,_,_,rfl,hb,h,Nat.le_refl _,by unfold maxLen;omega,by simp,by simp[List.take_of_length_le]⟩⟩
theorem agP{w:WD}{base n:Nat}{T:TypeId}{v:Av}{l:List BY}(h:w.ownsRow base T 1 v n (l.map Value.string))(hn:n=l.length)(h1:1<=n)(hl:n<=100)(hz:∀s∈l,s.size<=4194304):SG eX 1 (fun b=>b<w.heap.size) w v l:=by
 subst hn;have hc:=fun g=>h.cells (g:=g);have hlt:=h.lt;rcases h.2 with⟨rfl,hn⟩|⟨g,cap,cur,rfl,hbg,hg,hnc,hrest⟩
 .omega
 .exact Ph rfl (hlt g rfl).2 hnc oo (fun i hi=>by have:=hc g rfl i (.string l[i]) (by rw[List.getElem?_map,List.getElem?_eq_getElem hi];rfl);rwa[Addr.add_lit]at this) hz
theorem qy{w w1:WD}{o0:Obj}(h:w.alloc o0=w1):w1.heap[w.heap.size]?=some o0/\Below w.heap.size w w1:=by subst h;exact⟨heap_alloc_new w _,Ax.alloc nl _⟩
theorem alF{w w1:WD}{o0 o1 o2:Obj}(h:((w.alloc o0).alloc o1).alloc o2=w1):w1.heap[w.heap.size]?=some o0/\w1.heap[w.heap.size+1]?=some o1/\w1.heap[w.heap.size+1+1]?=some o2/\Below w.heap.size w w1:=by
 subst h;refine⟨?_,?_,?_,((Ax.alloc nl _).alloc Ab _).alloc An _⟩
 .rw[Below.heap_alloc _ _ _ (by simp;omega),Below.heap_alloc _ _ _ Ab];exact heap_alloc_new w _
 .rw[Below.heap_alloc _ _ _ (by simp)];have:=heap_alloc_new (w.alloc o0) o1;simpa using this
 .have:=heap_alloc_new ((w.alloc o0).alloc o1) o2;simpa using this
theorem agQ{w w1:WD}{o0 o1 o2 o3:Obj}(h:(((w.alloc o0).alloc o1).alloc o2).alloc o3=w1):w1.heap[w.heap.size]?=some o0/\w1.heap[w.heap.size+1]?=some o1/\w1.heap[w.heap.size+1+1]?=some o2/\w1.heap[w.heap.size+1+1+1]?=some o3/\Below w.heap.size w w1:=by
 subst h;refine⟨?_,?_,?_,?_,(((Ax.alloc nl _).alloc Ab _).alloc An _).alloc An _⟩
 .rw[Below.heap_alloc _ _ _ (by simp;omega),Below.heap_alloc _ _ _ An,Below.heap_alloc _ _ _ Ab];exact heap_alloc_new w _
 .rw[Below.heap_alloc _ _ _ (by simp),Below.heap_alloc _ _ _ (by simp)];have:=heap_alloc_new (w.alloc o0) o1;simpa using this
 .rw[Below.heap_alloc _ _ _ (by simp)];have:=heap_alloc_new ((w.alloc o0).alloc o1) o2;simpa using this
 .have:=heap_alloc_new (((w.alloc o0).alloc o1).alloc o2) o3;simpa using this
def pAw:aF:=⟨⟨#[114]⟩,[⟨#[99,111,108,111,114]⟩],[],[],false,false⟩
def sAw:BY:=⟨#[112,123,99,111,108,111,114,58,117,114,108,40,120,41,125,32,112,123,99,111,108,111,114,58,114,101,100,59,116,111,112,58,48,125]⟩
def oAw:BY:=⟨#[46,114,32,112,123,99,111,108,111,114,58,114,101,100,125]⟩
theorem Zb[bV]:(dR sAw pAw).1=oAw/\(dR sAw pAw).2=0:=⟨by kernel_rfl,by kernel_rfl⟩
theorem agR[bV](w:WD)(hI:jD w)(hl:Lit w):
  Calls prog 17 #[] w fun e w'=>e=.returned (.bool true)/\Below w.heap.size w w':=by
 have HI:=hid hI;have HL:=hid hl;clear hI hl;go_in;go_wp2_with fail;generalize hw1:World.alloc _ _=w1;obtain⟨q0,hb⟩:=qy hw1;have HB:=hid hb;have R1:w1.ownsRow w.heap.size 9 1 (.slice (some ⟨w.heap.size,0,none⟩) 1 1) 1 (pAw.props.map Value.string):=Za _ rfl q0 nl oo;have hS:=agP R1 rfl oo oo (fun s hs=>by rw[List.mem_singleton.1 hs];decide);have PM:jK w1.heap.size w1 pAw (.slice (some ⟨w.heap.size,0,none⟩) 1 1) (.slice none 0 0) (.slice none 0 0):=⟨hS,SG.iE _ _ _ _ _ _,SG.iE _ _ _ _ _ _,Nat.le_refl _⟩;refine(YT w1.heap.size sAw pAw _ _ _ w1 PM (HI.o.below hb nl) Xv (HL.o.below hb) Al Al).mono ?_;rw[Zb.1,Zb.2];clear hw1 q0 hb R1 hS PM;rintro e w2 ⟨rfl,hb⟩;have HB2:=hid (AC HB.o hb);clear hb HB;unfold oAw;go_wp2_with fail;go_ret
 exact⟨rfl,HB2.o⟩
def bK(c:Int)(n:Nat):Nat:=(Int.tmod (if c<0 then -(c+1) else c) n).toNat
theorem Dz(c:Int)(n:Nat):Int.tmod (if c<0 then -(c+1) else c) n=(bK c n:Int):=by
 have h:0<=(if c<0 then -(c+1) else c):=by split<;>omega
 unfold bK;rw[Int.tmod_eq_emod_of_nonneg h];cases n with
 |zero=>simp;omega
 |succ n=>exact(Int.toNat_of_nonneg (Int.emod_nonneg _ oo)).symm
theorem jJ(c:Int){n:Nat}(hn:0<n):bK c n<n:=by
 have h:0<=(if c<0 then -(c+1) else c):=by split<;>omega
 have:=Dz c n;rw[Int.tmod_eq_emod_of_nonneg h]at this;have:=Int.emod_lt_of_pos (if c<0 then -(c+1) else c) (show(0:Int)<n by omega);omega
theorem JK(c:Int)(w:WD)(h: -9223372036854775808<=c/\c<=9223372036854775807):Calls prog 14 #[.int .i64 c,.int .i64 3] w fun e w'=>e=.returned (.int .i64 (bK c 3:Int))/\w'=w:=by
 have hp:=Dz c 3;by_cases h0:c<0
 .rw[if_pos h0]at hp;have hp':Int.tmod (-(c+1)) 3=(bK c 3:Int):=hp;go_in;go_wp2_with fail;go_ret;exact⟨rfl,rfl⟩
 .rw[if_neg h0]at hp;have hp':Int.tmod c 3=(bK c 3:Int):=hp;go_in;go_wp2_with fail;go_ret;exact⟨rfl,rfl⟩
theorem JL(c:Int)(w:WD)(h: -9223372036854775808<=c/\c<=9223372036854775807):Calls prog 14 #[.int .i64 c,.int .i64 6] w fun e w'=>e=.returned (.int .i64 (bK c 6:Int))/\w'=w:=by
 have hp:=Dz c 6;by_cases h0:c<0
 .rw[if_pos h0]at hp;have hp':Int.tmod (-(c+1)) 6=(bK c 6:Int):=hp;go_in;go_wp2_with fail;go_ret;exact⟨rfl,rfl⟩
 .rw[if_neg h0]at hp;have hp':Int.tmod c 6=(bK c 6:Int):=hp;go_in;go_wp2_with fail;go_ret;exact⟨rfl,rfl⟩
