/- AluSpec, Aud, Font, KeyLow, MemRead, MemClone, IcNum, InsEq, IcRm, TimNum, Tim, KeyApp2, Prof, ProfNum, RangeStill, KeyOpen, BytOpen, FrmOpen. -/
import Derived.Test.YtbpniahcjbagmaaGreatDoorRows
import Derived.Test.YtbpniahcjbagmaaGreatDoorProg
import Derived.Test.YtbpniahcjbagmaaGreatDoorMk0e
set_option maxRecDepth 400000
set_option maxHeartbeats 64000000
set_option linter.unusedVariables false
set_option linter.unusedSimpArgs false
namespace Go.Proofs.YtbpniahcjbagmaaGreatDoor
section
open Go.RowKit Num Dec Cpu
def d3(b:Nat):Array Value:=#[.int .u8 ((b:Int)/100),.int .u8 ((b:Int)/10%10),.int .u8 ((b:Int)%10)]
structure zYU:Prop where
 do_:∀(v:Nat→Nat) (op:Int) (x y nn:Nat) (n addr len:Int) (q:Pr) (w:World),OkV v→x<16→y<16→nn<256→∀(hop:(Lit.int .i64 op).wf=true:=by decide),
  Calls Tryz.prog 122 #[.agg (rg v),.agg (lK ⟨op,x,y,n,nn,addr,len⟩),.agg (prc q)] w fun e w'=>e=.returned (.tuple #[.agg (rg (t7 v ⟨op,x,y,n,nn,addr,len⟩ q)),.bool (bA op)])∧Below w.heap.size w w'
 sk:∀(v:Nat→Nat) (op:Int) (x y nn:Nat) (n addr len:Int) (w:World),OkV v→x<16→y<16→nn<256→
  Calls Tryz.prog 123 #[.agg (rg v),.agg (lK ⟨op,x,y,n,nn,addr,len⟩)] w fun e w'=>e=.returned (.tuple #[.bool (skB v ⟨op,x,y,n,nn,addr,len⟩),.bool (sZ op)])∧Below w.heap.size w w'
 dg:∀(b:Nat) (w:World),b<256→Calls Tryz.prog 132 #[.int .u8 (b:Int)] w fun e w'=>e=.returned (.agg (d3 b))∧Below w.heap.size w w'
theorem zLG:nA Tryz.prog 232 3:=⟨⟨_,Tryz.underlying232,rfl⟩,by kernel_rfl⟩
theorem IN:nR Tryz.prog 232 #[.int .u8 0,.int .u8 0,.int .u8 0]:=by unfold nR;kernel_rfl
theorem zZ2(b:Nat):nI (d3 b):=by unfold nI d3;simp[Value.oneCell']
theorem zWA(P:Nat→Int):eqP P P=true:=(zWO P P).2 fun _ _=>rfl
section
variable {ops:Array Oper} {C:World→Prop} {Q:Act→Prop} {o:Oper} {rest:List Oper} {ac:Act} {v:Nat→Nat} {a b c:Int}
end
end
section
open Go.RowKit Num
theorem TY(w:World):Calls Tryz.prog 46 #[] w fun e w'=>e=.returned (.agg (ac mQ 64))∧Below w.heap.size w w':=by
 have hz:=IH;go_enter Tryz.func46,Tryz.ntmps46;go_upto_region 1 with fail;have R:=zW (AB.new w mQ 0);have B:=zW (lY w (.cells (ac mQ 0) 84));generalize w.alloc (.cells (ac mQ 0) 84)=w1 at*;obtain⟨r,hr⟩:∃r,w.heap.size=r:=⟨_,rfl⟩;have HR:=zW hr;rw[hr]at R B⊢;clear hr;refine zB ?_;refine mZ (cs:=ac mQ 64) rfl rfl (by simp[Act.eval];exact CZ) ?_;simp only[Act.put,zQ,zZ,zJ];refine kO (ds:=ac mQ 64) gF R.out (nV _ _) (nV _ _) (i7 _ _) rfl (.tmp 0) (.tmp 1) rfl zLS zLS ?_;have R2:=zW (R.out.store mQ 64);have B2:=zW (bG B.out (zH _) (ac mQ 64));generalize w1.setRow r (ac mQ 64)=w2 at*;iterate 4 go_step
 exact zP (zE rfl _ _ r _ _ _ _ rfl R2.out Tryz.underlying84 rfl (by rw[gF.i,nV])) rfl ⟨rfl,by rw[HR.out];exact B2.out⟩
theorem I2(P:Nat→Int)(p q:Int)(w:World):Calls Tryz.prog 149 #[.agg (ac P p),.int .u8 q] w fun e w'=>e=.returned (.agg (ac P q))∧Below w.heap.size w w':=by
 have hz:=IH;go_enter Tryz.func149,Tryz.ntmps149;go_upto_region 1 with fail;have S:=zW ((AB.new w P p).alloc (.cells (ac mQ 0) 84));have R:=zW (AB.new (w.alloc (.cells (ac P p) 84)) mQ 0);have B:=zW ((lY w (.cells (ac P p) 84)).alloc zLI (.cells (ac mQ 0) 84));rw[zT]at R;generalize (w.alloc (.cells (ac P p) 84)).alloc (.cells (ac mQ 0) 84)=w1 at*;clear hz;obtain⟨r,hr⟩:∃r,w.heap.size=r:=⟨_,rfl⟩;have HR:=zW hr;rw[hr]at S R B⊢;clear hr;have c0:=S.out.pitch;have f0:=S.out.fz 16;go_upto_region 2 with fail;clear c0 f0;have S2:=zW (S.out.tune q);have R2:=zW (R.out.other (g:=r) zLF 16 (.int .u8 q));have B2:=zW (B.out.setCell (p:=⟨r,16,none⟩) (zH _) (.int .u8 q));generalize w1.setCell ⟨r,16,none⟩ (.int .u8 q)=w2 at*;refine zB ?_;refine lJ gF S2.out (nV _ _) rfl (.tmp 2) rfl zLO ?_;simp only[Act.put,zQ,zZ,zJ];refine kO (ds:=ac P q) gF R2.out (nV _ _) (nV _ _) (i7 _ _) rfl (.tmp 4) (.tmp 7) rfl zLS zLS ?_;have R3:=zW (R2.out.store P q);have B3:=zW (bG B2.out (jY r) (ac P q));generalize w2.setRow (r+1) (ac P q)=w3 at*;iterate 4 go_step
 exact zP (zE rfl _ _ (r+1) _ _ _ _ rfl R3.out Tryz.underlying84 rfl (by rw[gF.i,nV])) rfl ⟨rfl,by rw[HR.out];exact B3.out⟩
theorem YN(P:Nat→Int)(p:Int)(A:Option Addr)(n c:Nat)(L:List Int)(w:World)(H:Rd w A L)(hn:L.length=n):
  Calls Tryz.prog 148 #[.agg (ac P p),.slice A n c] w fun e w'=>e=.returned (.agg (ac (pad L) p))∧Below w.heap.size w w':=by
 have hz:=IH;have HL:=zW (zM H hn);clear H hn;go_enter Tryz.func148,Tryz.ntmps148;go_upto_region 1 with fail;have S:=zW ((AB.new w P p).alloc (.cells (ac mQ 0) 84));have R:=zW (AB.new (w.alloc (.cells (ac P p) 84)) mQ 0);have B:=zW ((lY w (.cells (ac P p) 84)).alloc zLI (.cells (ac mQ 0) 84));rw[zT]at R;generalize (w.alloc (.cells (ac P p) 84)).alloc (.cells (ac mQ 0) 84)=w1 at*;clear hz;obtain⟨r,hr⟩:∃r,w.heap.size=r:=⟨_,rfl⟩;have HR:=zW hr;rw[hr]at S R B⊢;clear hr;refine zB ?_;refine mZ (cs:=pc mQ) rfl rfl (by simp[Act.eval];exact RT) ?_;simp only[Act.put,zQ,zZ,zJ];iterate 3 go_step
 refine mO (o:=0) (ds:=pc mQ) cU S.out (nX _) zMM (JH _) rfl (.tmp 6) (.tmp 5) rfl zLS zLS ?_;rw[IW];have S2:=zW (S.out.store mQ p);have R2:=zW (R.out.otherRow (g:=r) zLF (ac mQ p));have B2:=zW (bG B.out (zH _) (ac mQ p));generalize w1.setRow r (ac mQ p)=w2 at*;simp only[Act.put,zQ,zZ,zJ];go_upto_region 2 with fail;refine zB ?_;iterate 9 go_step
 obtain⟨d,hd⟩:∃d,d=min n 16:=⟨_,rfl⟩;have hp:w2.heap[r]?=some (.cells ((yL mQ++[p]).map (Value.int .u8)).toArray 84 (0,0)):=by rw[←DK];exact S2.out
 have RL:Rd w2 A L:=HL.out.1.below (by rw[HR.out];exact B2.out);obtain⟨w3,hrun,hg,ha⟩:=cQ 3 r 0 16 16 (some ⟨r,0,none⟩) (fun _=>rfl) A n c d hd L HL.out.2 RL _ 84 hp (by simp[mG]);rw[zYE]at hg;refine ZM rfl (.tmp 8) (.tmp 9) rfl _ _ _ zLO zLO hrun 10 rfl ?_;have S3:=zW (show AB r (pad L) p w3 from hg);have R3:=zW (show AB (r+1) mQ 0 w3 from((ha none).block (r+1) R2.out.lt zLF (fun e=>by cases e)).trans R2.out);have B3:=zW (B2.out.trans ((ha none).below (by have:=S2.out.lt;omega) (zH _) (fun k hk=>by cases hk)));clear hrun hg ha RL hp hd;simp only[zQ,zZ,zJ];go_upto_region 3 with fail;refine zB ?_;refine lJ gF S3.out (nV _ _) rfl (.tmp 2) rfl zLO ?_;simp only[Act.put,zQ,zZ,zJ];refine kO (ds:=ac (pad L) p) gF R3.out (nV _ _) (nV _ _) (i7 _ _) rfl (.tmp 4) (.tmp 11) rfl zLS zLS ?_;have R4:=zW (R3.out.store (pad L) p);have B4:=zW (bG B3.out (jY r) (ac (pad L) p));generalize w3.setRow (r+1) (ac (pad L) p)=w4 at*;iterate 4 go_step
 exact zP (zE rfl _ _ (r+1) _ _ _ _ rfl R4.out Tryz.underlying84 rfl (by rw[gF.i,nV])) rfl ⟨rfl,by rw[HR.out];exact B4.out⟩
theorem N4(n:Int)(w:World)(h:0≤n):Calls Tryz.prog 131 #[.int .i64 n] w fun e w'=>e=.returned (.int .i64 (n%16))∧w=w':=by
 have e:=I8 n 16 h;go_enter Tryz.func131,Tryz.ntmps131;go_wp2;go_ret;exact⟨uW zLF,rfl⟩
theorem MK(n:Int)(w:World)(h:0≤n):Calls Tryz.prog 100 #[.int .i64 n] w fun e w'=>e=.returned (.int .i64 (80+5*(n%16)))∧w=w':=by
 go_enter Tryz.func100,Tryz.ntmps100;exact zHQ
theorem CR(n:Int)(w:World)(h:0≤n):Calls Tryz.prog 101 #[.int .i64 n] w fun e w'=>e=.returned (.int .i64 (160+10*(n%16)))∧w=w':=by
 go_enter Tryz.func101,Tryz.ntmps101;exact zHQ
def zVZ(K:Nat→Bool)(n:Int):Bool:=decide (0≤n)&&K (n%16).toNat
theorem WB(K:Nat→Bool)(n:Int)(w:World)(h1:n≤9223372036854775807):
  Calls Tryz.prog 125 #[.agg (kc K),.int .i64 n] w fun x w'=>x=.returned (.bool (zVZ K n))∧Below w.heap.size w w':=by
 unfold zVZ;by_cases h0:0≤n
 ·obtain⟨m,rfl⟩:=jL h0;obtain⟨j,hj⟩:∃j:Nat,(m:Int)%16=(j:Int):=⟨((m:Int)%16).toNat,by omega⟩;have j0:0≤(j:Int):=zLF;have j1:(j:Int)<16:=zLF;have j2:j<16:=zLF;rw[qL h0,Bool.true_and,hj,Int.toNat_natCast];have P:=zW (KB.new w K);have B:=zW (tF w (.cells (kc K) 74));have c1:=P.out.cell j2;obtain⟨v,hv⟩:∃v,K j=v:=⟨_,rfl⟩;rw[hv]at c1⊢;clear hv P;go_enter Tryz.func125,Tryz.ntmps125;go_upto_region 1 with fail;generalize w.alloc (.cells (kc K) 74)=w1 at*;obtain⟨p,hp⟩:∃p,w.heap.size=p:=⟨_,rfl⟩;have HP:=zW hp;rw[hp]at c1⊢;clear hp;go_wp2;go_ret;exact⟨rfl,B.out⟩
 ·rw[qQ h0,Bool.false_and];go_enter Tryz.func125,Tryz.ntmps125;go_wp2;go_ret;exact⟨rfl,tF _ _⟩
theorem M7(p:Nat)(M:List Int)(v:Value)(a x:Int)(k:Nat)(w:World)(hM:M.length=65536)(hp:mF p M v w)(hk:a%65536=k)(hx:M[k]?=some x):
  Calls Tryz.prog 165 #[.pointer (some ⟨p,0,none⟩),.int .i64 a] w (Reads (.int .u8 x) w):=by
 have hc:w.cell? ⟨p,k,none⟩=some (.int .u8 x):=by
  rw[hp.cell hM k zLF];rw[zS zLF]at hx;injection hx with hx
  rw[hx]
 have k0:0≤(k:Int):=zLF;have k1:(k:Int)<65536:=zLF;have H:=zW hk;clear hk hx hp hM;go_enter Tryz.func165,Tryz.ntmps165;go_wp2;go_quiet ((go_at_call 77;exact Calls.quiet_of_same (rI _ _ _ H.out)))
 go_wp2;go_ret;exact⟨rfl,_,rfl⟩
theorem QL:∀(L:List Value) (k:Nat) (cs:Array Value),k+L.length≤cs.size→
  (L.zipIdx k).foldl (fun cs (x:Value×Nat)=>cs.setIfInBounds x.2 x.1) cs=(cs.toList.take k++L++cs.toList.drop (k+L.length)).toArray
 |[],k,cs,_=>by simp
 |x::L,k,cs,h=>by
  simp only[List.length_cons]at h;rw[List.zipIdx_cons,List.foldl_cons,QL L (k+1) _ zL1];have e:=list_seg_step cs.toList k x L zL1;congr 1
  simpa using e
theorem zVX:(Tryz.prog.info? 140).map (·.size)=some 65536:=by kernel_rfl
theorem CM(M:List Int)(hM:M.length=65536)(w:World):(Instr.build 144 #[(0,.agg (arr M))]).run Tryz.prog w=.ok (.agg (cells M (.slice none 0 0))) w:=by
 have hf:Instr.fill (fun i=>(#[(0,65536),(65536,1)]:Array (Nat×Nat))[i]?) (cells cH (.slice none 0 0)) [(0,.agg (arr M))]=some (cells M (.slice none 0 0)):=by
  have e0:(#[(0,65536),(65536,1)]:Array (Nat×Nat))[0]?=some (0,65536):=rfl;have e1:(arr M).size=65536:=by rw[iA,hM]
  have e2:(cells cH (.slice none 0 0)).size=65537:=by unfold cells;simp[cK]
  have e3:(arr M).zipIdx.foldl (fun cs (x:Value×Nat)=>cs.setIfInBounds (0+x.2) x.1) (cells cH (.slice none 0 0))=cells M (.slice none 0 0):=by
   have h:=QL (M.map (Value.int .u8)) 0 (cells cH (.slice none 0 0)) (by rw[e2];simp[hM]);simp only[qH];rw[←Array.foldl_toList,Array.toList_zipIdx];refine h.trans ?_;unfold cells;simp[hM,cK]
  unfold Instr.fill;simp only[e0,Value.cells,e1,e2];rw[zL zLI];show Instr.fill _ ((arr M).zipIdx.foldl (fun cs (x:Value×Nat)=>cs.setIfInBounds (0+x.2) x.1) (cells cH (.slice none 0 0))) []=_;rw[e3];rfl
 refine run_build w 144 _ _ ?_;obtain⟨it,hit,hz⟩:=kL.1 GE;simp only[j4]at hz;have hp:(match Tryz.prog.underlying 144 with|some (.struct fields)=>fields.toList.mapM (fun f=>(Tryz.prog.info? f.type).map fun i=>(f.offset,i.size))|_=>none)=some [(0,65536),(65536,1)]:=by kernel_rfl
 rw[Tryz.underlying144]at hp;unfold Program.built;rw[hit,Tryz.underlying144];simp only at hp⊢;rw[hz.1,hp];exact hf
theorem eI{P:Program}{ops:Array Oper}{rest:List Oper}{o:Oper}{a:Act}{w:World}{Q:Exit→Act→World→Prop}(hgd:o.guard=none)(ty:TypeId)(parts:Array (Nat×Operand))(ho:o.op=.build ty parts)
  (ps:Array (Nat×Value)) (hp:(parts.map fun x=>(x.1,a.eval x.2))=ps) (r:Value) (hrun:(Instr.build ty ps).run P w=.ok r w) (h:wpList P ops Q rest (a.put o.dst r) w):wpList P ops Q (o::rest) a w:=by
 subst hp;refine qG hgd fun K hK=>?_;unfold Oper.wp execOp;simp only[ho,zA,hrun,Result.andThen_ok,Sem.run_pure];exact hK _ _ h
def Cloned(M:List Int)(w:World)(e:Ending)(w':World):Prop:=
 ∃q,e=.returned (.pointer (some ⟨q,0,none⟩))∧w.heap.size≤q∧mF q M (.slice none 0 0) w'∧Below w.heap.size w w'
theorem AU(p:Nat)(M:List Int)(v:Value)(w:World)(hM:M.length=65536)(hp:mF p M v w):
  Calls Tryz.prog 42 #[.pointer (some ⟨p,0,none⟩)] w (Cloned M w):=by
 have hb:=CM M hM;have H:=zW (zM hM hp);clear hM hp;go_enter Tryz.func42,Tryz.ntmps42;go_upto_region 3 with fail;refine zB ?_;iterate 9 go_step
 refine yO rfl 140 (.tmp 7) rfl ⟨p,0,none⟩ zLO M _ (fun j h=>by rw[eE,qH];exact H.out.2.cell H.out.1 j (by rw[←H.out.1];exact h)) Tryz.underlying140 rfl (by rw[zVX,H.out.1]) ?_;refine eI rfl 144 #[(0,.tmp 8)] rfl #[(0,.agg (arr M))] zLS _ (hb w) ?_;clear hb;go_wp2;go_ret;exact⟨w.heap.size,rfl,zH _,jM _ _,(zG _ _).alloc (zH _) _⟩
end
section
open Num Dec
def eV(x a n:Int):Bool:=decide ((x-a)%65536<n)||(decide ((x+1-a)%65536<n)||(decide ((x+2-a)%65536<n)||decide ((x+3-a)%65536<n)))
theorem zZX{x a n:Int}(h:eV x a n=false):∀k:Int,0≤k→k<4→¬(x+k-a)%65536<n:=by
 unfold eV at h;simp only[Bool.or_eq_false_iff,decide_eq_false_iff_not]at h;obtain⟨h0,h1,h2,h3⟩:=h;intro k k0 k4;have:k=0∨k=1∨k=2∨k=3:=by omega
 rcases this with rfl|rfl|rfl|rfl
 ·rwa [Int.add_zero]
 ·exact h1
 ·exact h2
 ·exact h3
theorem zVV{x a n:Int}(h:eV x a n=true):∃k:Int,0≤k∧k<4∧(x+k-a)%65536<n:=by
 unfold eV at h;simp only[Bool.or_eq_true,qB]at h;rcases h with h|h|h|h
 ·exact⟨0,by omega,by omega,by rwa [Int.add_zero]⟩
 ·exact⟨1,by omega,by omega,h⟩
 ·exact⟨2,by omega,by omega,h⟩
 ·exact⟨3,by omega,by omega,h⟩
theorem zVW{x a n:Int}:eV x a n=true↔∃k:Int,0≤k∧k<4∧(x+k-a)%65536<n:=by
 refine⟨zVV,fun⟨k,k0,k4,h⟩=>?_⟩;cases hb:eV x a n
 ·exact absurd h (zZX hb k k0 k4)
 ·rfl
def yU(M:List Int)(x:Int)(k:Nat):Nat:=((seg M x 4).getD k 0).toNat
def xH(M:List Int)(x l:Int):Ins:=dec (yU M x 0) (yU M x 1) (yU M x 2) (yU M x 3) l
abbrev m6:=List (Nat×Ins)
def wB(l:m6)(a n:Int):m6:=l.filter fun p=> !eV (p.1:Int) a n
def lO(l:m6)(x:Nat):Option Ins:=match l with
 |[]=>none
 |p::t=>if p.1=x then some p.2 else lO t x
theorem ZL:∀(l:m6) (a n:Int) (x:Nat),lO (wB l a n) x=if eV (x:Int) a n=true then none else lO l x
 |[],a,n,x=>by simp[wB,lO]
 |p::t,a,n,x=>by
  have ih:=ZL t a n x;unfold wB at ih⊢;rw[List.filter_cons];cases hp:eV (p.1:Int) a n
  ·simp only[Bool.not_false,if_true];unfold lO;by_cases h:p.1=x
   ·rw[zN h,zN h];rw[h]at hp;rw[hp];simp
   ·rw[zL h,zL h,ih]
  ·simp only[Bool.not_true,Bool.false_eq_true,if_false];rw[ih];by_cases h:p.1=x
   ·rw[h]at hp;rw[hp];simp
   ·show _=if eV (x:Int) a n=true then none else lO (p::t) x;conv=>rhs;unfold lO
    rw[zL h]
theorem gO:∀(l:m6) (y:Nat) (i:Ins) (x:Nat),lO (l++[(y,i)]) x=match lO l x with|some j=>some j|none=>if y=x then some i else none
 |[],y,i,x=>by simp[lO]
 |p::t,y,i,x=>by
  rw[List.cons_append];unfold lO;by_cases h:p.1=x
  ·rw[zN h,zN h]
  ·rw[zL h,zL h,gO t y i x]
def wS(l:m6):Prop:=(l.map (·.1)).Nodup
theorem wS.drop{l:m6}(h:wS l)(a n:Int):wS (wB l a n):=by
 unfold wS wB at*;exact h.sublist ((List.filter_sublist).map _)
theorem FQ{l:m6}{x:Nat}(h:lO l x=none):x ∉ l.map (·.1):=by
 induction l with
 |nil=>simp
 |cons p t ih=>
  unfold lO at h
  by_cases e:p.1=x
  ·rw[zN e]at h;cases h
  ·rw[zL e]at h
   rw[List.map_cons,List.mem_cons,not_or]
   exact⟨fun c=>e c.symm,ih h⟩
theorem wS.snoc{l:m6}(h:wS l){y:Nat}(i:Ins)(hn:lO l y=none):wS (l++[(y,i)]):=by
 unfold wS at*;rw[jA,List.nodup_append];refine⟨h,by simp,?_⟩;intro a ha b hb;simp at hb;subst hb;intro e;exact FQ hn (e▸ha)
end
section
open Go.RowKit Dec
section
variable {ops:Array Oper} {C:World→Prop} {i j:Ins}
end
end
section
open Num Dec
def rmE(l:m6)(x:Nat):m6:=l.filter fun p=>decide (p.1≠x)
theorem GH:∀(l:m6) (x y:Nat),lO (rmE l x) y=if y=x then none else lO l y
 |[],x,y=>by simp[rmE,lO]
 |p::t,x,y=>by
  have ih:=GH t x y;unfold rmE at ih⊢;rw[List.filter_cons];by_cases hp:p.1=x
  ·rw[zL (by simp[hp]),ih];by_cases h:y=x
   ·rw[zN h,zN h]
   ·rw[zL h,zL h];conv=>rhs;unfold lO
    rw[zL zLF]
  ·rw[zN (by simp[hp])];unfold lO;by_cases h:p.1=y
   ·rw[zN h,zL zLF,zN h]
   ·rw[zL h,ih,zL h]
theorem JV:∀(l:m6) (x:Nat),lO l x=none→rmE l x=l
 |[],x,_=>rfl
 |p::t,x,h=>by
  unfold lO at h;by_cases hp:p.1=x
  ·rw[zN hp]at h;cases h
  ·rw[zL hp]at h;have ih:=JV t x h;unfold rmE at ih⊢;rw[List.filter_cons,zN (by simp[hp]),ih]
theorem U5:∀(l:m6) (x:Nat) (i:Ins),wS l→lO l x=some i→(rmE l x).length+1=l.length
 |p::t,x,i,ho,h=>by
  unfold wS at ho;rw[List.map_cons,List.nodup_cons]at ho;unfold lO at h;by_cases hp:p.1=x
  ·have hn:lO t x=none:=by
    cases hq:lO t x with
    |none=>rfl
    |some j=>
     exfalso
     apply ho.1
     rw[hp]
     clear ho h
     induction t with
     |nil=>simp[lO]at hq
     |cons q t ih=>
      unfold lO at hq
      by_cases e:q.1=x
      ·simp[e]
      ·rw[zL e]at hq
       rw[List.map_cons,List.mem_cons]
       exact .inr (ih hq)
   have e:=JV t x hn;unfold rmE at e⊢;rw[List.filter_cons,zL (by simp[hp]),e,List.length_cons]
  ·rw[zL hp]at h;have ih:=U5 t x i ho.2 h;unfold rmE at ih⊢;rw[List.filter_cons,zN (by simp[hp]),List.length_cons,List.length_cons];omega
theorem wS.rm{l:m6}(h:wS l)(x:Nat):wS (rmE l x):=by
 unfold wS rmE at*;exact h.sublist ((List.filter_sublist).map _)
theorem rm_le(l:m6)(x:Nat):(rmE l x).length≤l.length:=List.length_filter_le _ _
def rmN(l:m6)(a:Int):Nat→m6
 |0=>l
 |j+1=>rmE (rmN l a j) ((a+(j:Int))%65536).toNat
theorem aF(l:m6)(a:Int):∀j,rmN l a j=l.filter fun p=>decide (∀k,k<j→p.1≠((a+(k:Int))%65536).toNat)
 |0=>by
  unfold rmN;rw[eq_comm,List.filter_eq_self];intro p _;simp
 |j+1=>by
  unfold rmN;rw[aF l a j];unfold rmE;rw[List.filter_filter];apply List.filter_congr
  intro p _
  rw[←Bool.decide_and,decide_eq_decide];constructor
  ·rintro⟨h1,h2⟩ k hk;by_cases e:k=j
   ·subst e;exact h1
   ·exact h2 k zLF
  ·intro h;exact⟨h j zLF,fun k hk=>h k zLF⟩
def aG(n:Int):Nat:=(min n 65533+3).toNat
theorem U7(l:m6)(a n:Int)(hl:∀p∈l,p.1<65536)(n0:0<n)(n1:n≤65536):rmN l (a-3) (aG n)=wB l a n:=by
 rw[aF];unfold wB;apply List.filter_congr
 intro p hp
 have hp:=hl p hp;rw[Bool.eq_iff_iff,qB,Bool.not_eq_true',←Bool.not_eq_true,zVW];unfold aG;constructor
 ·rintro h ⟨k,k0,k4,hk⟩;by_cases hs:n≤65533
  ·refine h (3-k+((p.1:Int)+k-a)%65536).toNat zLF ?_;omega
  ·refine h (((p.1:Int)-a+3)%65536).toNat zLF ?_;omega
 ·intro h j hj e;apply h
  by_cases h3:j<3
  ·exact⟨3-(j:Int),by omega,by omega,by omega⟩
  ·by_cases hs:n≤65533
   ·exact⟨0,by omega,by omega,by omega⟩
   ·by_cases h4:(j:Int)-3<n
    ·exact⟨0,by omega,by omega,by omega⟩
    ·exact⟨3,by omega,by omega,by omega⟩
theorem U6(l:m6)(a:Int):∀j,(rmN l a j).length≤l.length
 |0=>zH _
 |j+1=>zR (rm_le _ _) (U6 l a j)
def dropL(l:m6):List (Int×Int)→m6
 |[]=>l
 |s::t=>dropL (if 0<s.2 then wB l s.1 s.2 else l) t
theorem iR(l:m6)(s:Int×Int):∀t,dropL l (t++[s])=if 0<s.2 then wB (dropL l t) s.1 s.2 else dropL l t
 |[]=>rfl
 |x::t=>by
  rw[List.cons_append];unfold dropL;exact iR _ s t
theorem XT(l:m6)(a n:Int):(wB l a n).length≤l.length:=List.length_filter_le _ _
theorem eN:∀(t:List (Int×Int)) (l:m6),(dropL l t).length≤l.length
 |[],l=>zH _
 |s::t,l=>by
  unfold dropL;refine zR (eN t _) ?_;split
  ·exact XT _ _ _
  ·exact zH _
end
section
def lw(v n:Int):Int:=max 0 (v-max 0 n)
theorem lw_neg{v n:Int}(h0:0≤v)(h:n≤0):v=lw v n:=by unfold lw;omega
theorem lw_big{v n:Int}(h0:0≤v)(h:v≤n):(0:Int)=lw v n:=by unfold lw;omega
theorem lw_mid{v n:Int}(h:0<n)(h1:n<v):v-n=lw v n:=by unfold lw;omega
end
section
open Go.RowKit Num
theorem LU{f:FuncId}{args:Array Value}{v:Value}{w:World}(h:Calls Tryz.prog f args w fun e w'=>e=.returned v∧w=w'):Calls Tryz.prog f args w fun e w'=>e=.returned v∧w'=w:=
 h.mono fun _ _ ⟨he,hw⟩=>⟨he,hw.symm⟩
theorem ZY(v n:Int)(w:World)(h0:0≤v)(h1:v≤255)(hn:n≤9223372036854775807):
  Calls Tryz.prog 70 #[.int .u8 v,.int .i64 n] w fun e w'=>e=.returned (.int .u8 (lw v n))∧w=w':=by
 by_cases c:n≤0
 ·clear hn;have E:=zW (lw_neg h0 c);exact zNU
 ·by_cases d:v≤n
  ·have E:=zW (lw_big h0 d);exact zNU
  ·have E:=zW (lw_mid zLF (by omega:n<v));have n0:0≤n:=zLF;have n1:n≤255:=zLF;clear hn;exact zNU
theorem H5{w:World}{b:Nat}{T:TypeId}{d s:Value}(u v:Value)(c0:w.cell? ⟨b,0,none⟩=some d)(c1:w.cell? ⟨b,1,none⟩=some s):
  ((w.setCell ⟨b,0,none⟩ u).setCell ⟨b,1,none⟩ v).cell? ⟨b,0,none⟩=some u∧((w.setCell ⟨b,0,none⟩ u).setCell ⟨b,1,none⟩ v).cell? ⟨b,1,none⟩=some v:=by
 have h0:=World.cell?_setCell_same w (a:=⟨b,0,none⟩) u c0;have h1:=qR w ⟨b,0,none⟩ ⟨b,1,none⟩ u (by intro c;cases c);exact⟨(qR _ ⟨b,1,none⟩ ⟨b,0,none⟩ v (by intro c;cases c)).trans h0,World.cell?_setCell_same _ (a:=⟨b,1,none⟩) v (h1.trans c1)⟩
theorem IV(d s n:Int)(w:World)(d0:0≤d)(d1:d≤255)(s0:0≤s)(s1:s≤255)(hn:n≤9223372036854775807):
  Calls Tryz.prog 56 #[.agg #[.int .u8 d,.int .u8 s],.int .i64 n] w fun e w'=>e=.returned (.agg #[.int .u8 (lw d n),.int .u8 (lw s n)])∧Below w.heap.size w w':=by
 have HD:=zW fun w=>LU (ZY d n w d0 d1 hn);have HS:=zW fun w=>LU (ZY s n w s0 s1 hn);clear hn;generalize lw d n=u at*;generalize lw s n=v at*;go_enter Tryz.func56,Tryz.ntmps56;go_wp2_with fail;refine uN 9 zLP zLP ?_;intro wd hwd;have k0:wd.cell? ⟨w.heap.size,0,none⟩=some (.int .u8 d):=by rw[hwd];simp
 have k1:wd.cell? ⟨w.heap.size,1,none⟩=some (.int .u8 s):=by rw[hwd];simp
 have c0:wd.cell? ⟨w.heap.size+1,0,none⟩=some (.int .u8 0):=by rw[hwd];simp
 have c1:wd.cell? ⟨w.heap.size+1,1,none⟩=some (.int .u8 0):=by rw[hwd];simp
 have f0:wd.frozen? ⟨w.heap.size+1,0,none⟩=false:=by rw[hwd];simp
 have f1:wd.frozen? ⟨w.heap.size+1,1,none⟩=false:=by rw[hwd];simp
 have kb:Below w.heap.size w wd:=by rw[hwd];go_grown
 clear hwd;simp only[List.take_succ_cons,List.take_zero,List.drop_succ_cons,List.drop_zero];repeat still_step
 still_call (HD.out _)
 repeat still_step
 still_call (HS.out _)
 repeat still_step
 refine wpStill_nil ?_;have X:=zW (H5 (T:=0) (.int .u8 u) (.int .u8 v) c0 c1);have B:=zW ((kb.setCell (p:=⟨w.heap.size+1,0,none⟩) (jY _) (.int .u8 u)).setCell (p:=⟨w.heap.size+1,1,none⟩) (jY _) (.int .u8 v));go_wp2;generalize (wd.setCell ⟨w.heap.size+1,0,none⟩ (.int .u8 u)).setCell ⟨w.heap.size+1,1,none⟩ (.int .u8 v)=wz at*;obtain⟨x0,x1⟩:=X.out;exact zP (v:=.agg #[.int .u8 u,.int .u8 v]) (by simp[results,Tryz.results56,go_sem,x0,x1]) rfl ⟨rfl,B.out⟩
theorem I9(d s:Int)(w:World)(d0:0≤d)(d1:d≤255)(s0:0≤s)(s1:s≤255):
  Calls Tryz.prog 41 #[.agg #[.int .u8 d,.int .u8 s]] w fun e w'=>e=.returned (.agg #[.int .u8 (lw d 1),.int .u8 (lw s 1)])∧Below w.heap.size w w':=by
 have HA:=zW fun w=>IV d s 1 w d0 d1 s0 s1 zLF;generalize lw d 1=u at*;generalize lw s 1=v at*;go_enter Tryz.func41,Tryz.ntmps41;go_wp2_with fail;refine(HA.out _).mono ?_;rintro e w1 ⟨rfl,hb⟩;have z:=hb.size;simp only[zT]at z;have c0:w1.cell? ⟨w.heap.size+1,0,none⟩=some (.int .u8 0):=(hb.cell (p:=⟨w.heap.size+1,0,none⟩) zLI).trans zLI;have c1:w1.cell? ⟨w.heap.size+1,1,none⟩=some (.int .u8 0):=(hb.cell (p:=⟨w.heap.size+1,1,none⟩) zLI).trans zLI;have f0:w1.frozen? ⟨w.heap.size+1,0,none⟩=false:=(hb.frozen (p:=⟨w.heap.size+1,0,none⟩) zLI).trans zLI;have f1:w1.frozen? ⟨w.heap.size+1,1,none⟩=false:=(hb.frozen (p:=⟨w.heap.size+1,1,none⟩) zLI).trans zLI;have kb:Below w.heap.size w w1:=(((zG w.heap.size w).alloc (zH _) _).alloc zLI _).trans (hb.mono zL1);clear hb;have X:=zW (H5 (T:=0) (.int .u8 u) (.int .u8 v) c0 c1);have B:=zW ((kb.setCell (p:=⟨w.heap.size+1,0,none⟩) (jY _) (.int .u8 u)).setCell (p:=⟨w.heap.size+1,1,none⟩) (jY _) (.int .u8 v));go_wp2;generalize (w1.setCell ⟨w.heap.size+1,0,none⟩ (.int .u8 u)).setCell ⟨w.heap.size+1,1,none⟩ (.int .u8 v)=wz at*;obtain⟨x0,x1⟩:=X.out;exact zP (v:=.agg #[.int .u8 u,.int .u8 v]) (by simp[results,Tryz.results41,go_sem,x0,x1]) rfl ⟨rfl,B.out⟩
def onT(s:Int):Bool:=!decide (s=0)
theorem zXG(d s:Int)(w:World):
  Calls Tryz.prog 33 #[.agg #[.int .u8 d,.int .u8 s]] w fun e w'=>e=.returned (.bool (onT s))∧Below w.heap.size w w':=by
 have E:=zW (show(!decide (s=0))=onT s from rfl);go_enter Tryz.func33,Tryz.ntmps33;go_wp2;go_ret;exact⟨by rw[←E.out];rfl,by go_grown⟩
theorem zQO(d s:Int)(w:World)(d0:0≤d)(d1:d≤255)(s0:0≤s)(s1:s≤255):
  Calls Tryz.prog 34 #[.agg #[.int .u8 d,.int .u8 s]] w fun e w'=>e=.returned (.int .i64 (max d s))∧Below w.heap.size w w':=by
 have m0:0≤max d s:=zLF;have m1:max d s≤255:=zLF;go_enter Tryz.func34,Tryz.ntmps34;go_wp2;go_ret;exact⟨rfl,by go_grown⟩

abbrev zY6(l:Int)(b0 b1 b2 b3 b4 b5 b6:Bool):Value:=.agg #[.int .i64 l,.bool b0,.bool b1,.bool b2,.bool b3,.bool b4,.bool b5,.bool b6]
def QW(b:Nat)(l:Int)(b0 b1 b2 b3 b4 b5 b6:Bool)(w:World):Prop:=b<w.heap.size∧w.cell? ⟨b,0,none⟩=some (.int .i64 l)∧w.cell? ⟨b,1,none⟩=some (.bool b0)∧w.cell? ⟨b,2,none⟩=some (.bool b1)∧w.cell? ⟨b,3,none⟩=some (.bool b2)∧w.cell? ⟨b,4,none⟩=some (.bool b3)∧w.cell? ⟨b,5,none⟩=some (.bool b4)∧w.cell? ⟨b,6,none⟩=some (.bool b5)∧w.cell? ⟨b,7,none⟩=some (.bool b6)
theorem QW.below{b:Nat}{l:Int}{b0 b1 b2 b3 b4 b5 b6:Bool}{w w':World}{n:Nat}(h:QW b l b0 b1 b2 b3 b4 b5 b6 w)(hb:Below n w w')(hn:b<n):QW b l b0 b1 b2 b3 b4 b5 b6 w':=by
 obtain⟨h0,h⟩:=h;refine⟨zF h0 hb.size,?_⟩;have e:∀j,w'.cell? ⟨b,j,none⟩=w.cell? ⟨b,j,none⟩:=fun j=>hb.cell (p:=⟨b,j,none⟩) hn;simpa only[e]using h
theorem QW.new(w:World)(t:TypeId)(l:Int)(b0 b1 b2 b3 b4 b5 b6:Bool):QW w.heap.size l b0 b1 b2 b3 b4 b5 b6 (w.alloc (.cells #[.int .i64 l,.bool b0,.bool b1,.bool b2,.bool b3,.bool b4,.bool b5,.bool b6] t)):=by
 unfold QW;simp
theorem DG(l:Int)(b0 b1 b2 b3 b4 b5 b6:Bool)(w:World)(h0:1≤l)(h1:l≤3):
  Calls Tryz.prog 35 #[zY6 l b0 b1 b2 b3 b4 b5 b6] w fun e w'=>e=.returned (.bool true)∧Below w.heap.size w w':=by
 go_enter Tryz.func35,Tryz.ntmps35;go_wp2;exact zM9
theorem IU(l:Int)(b0 b1 b2 b3 b4 b5 b6:Bool)(w:World)(h:l<1∨3<l):
  Calls Tryz.prog 35 #[zY6 l b0 b1 b2 b3 b4 b5 b6] w fun e w'=>e=.returned (.bool false)∧Below w.heap.size w w':=by
 have h:l<1∨(1≤l∧3<l):=zLF;rcases h with h|⟨h,h2⟩
 all_goals
  go_enter Tryz.func35,Tryz.ntmps35
  go_wp2
  go_returns
  exact⟨by simp;try omega,by go_grown⟩
def bi(b:Bool)(n:Int):Int:=if b then n else 0
end
section
open Go.RowKit
theorem NJ{W:World}{l:Nat}{o o':Obj}(h:W.heap[l]?=some o):(W.putObj l o').putObj l o=W:=by
 unfold World.putObj;have e:(W.heap.setIfInBounds l o').setIfInBounds l o=W.heap:=by
  apply qZ
  intro k
  rw[qJ,qJ,Array.size_setIfInBounds];by_cases hk:l=k
  ·subst hk;rw[zN rfl,h];have:=(qX.1 h).1;rw[zN this]
  ·rw[zL hk,zL hk]
 simp only[e]
theorem bO{P:Program}{g:Operand}{ps:Array Tmp}{assign body:Code}{Q:Exit→Act→World→Prop}{a:Act}{w:World}{gf:Nat}{lb:Array Value}(hg:a.eval g=.func (.func gf) #[] lb)(eg:∀args w,(callFunc gf args).run P w=.ok (.enter gf args) w)(hps:ps.size=0)
  (hassign:∀(l:Nat) (W:World) (K:Act→World→Prop),K {tmps:=a.tmps,defers:=[]} W→assign.wpIn (Fence.wide.inRound l) 4 P (Exit.then K (fun _ _ _=>False)) {tmps:=a.tmps,defers:=[]} W)
  (hbody:∀(l:Nat) (W:World),body.wpIn (Fence.wide.inRound l) 4 P (fun e _ W'=>e=.normal∧W'=W) {tmps:=a.tmps,defers:=[]} W)
  (R:World→Prop)
  (hcall:∀(l:Nat) (o:Obj) (W1:World),o.isCells=false→l=w.heap.size+1→W1=(w.alloc (.deferred (some []))).alloc o→
   (∀W,W.heap[l]?=some o→YieldAt Fence.wide 4 P l #[] W fun e W'=>e=.returned (.bool true)∧W'=W)→
   CallsIn Fence.wide 5 P gf (#[.func (.yield l) #[] #[]]++lb) W1 fun e W'=>(∃v,e=.returned v)∧W'.heap[l]?=some o∧R W')
  (hdone:∀(W:World) (o:Obj),R W→Q .normal {a with defers:={target:=.collected w.heap.size,args:=#[]}::a.defers} (W.putObj (w.heap.size+1) o)):
  (Code.rangeFunc g ps assign body).wp P Q a w:=by
 obtain rfl:ps=#[]:=Array.eq_empty_of_size_eq_zero hps;refine(wpIn_wide (n:=6)).1 (wpIn_rangeFunc ?_);intro fn hfn;obtain⟨rec,hrec⟩:∃rec:Loop,rec={state:=.ready,pending:=none,fn,tmps:=a.tmps,params:=#[],assign,body,defers:=w.heap.size}:=⟨_,rfl⟩;refine⟨w.heap.size+1,[{target:=.collected w.heap.size,args:=#[]}],(w.alloc (.deferred (some []))).alloc (.loop rec),{target:=.fn (.func gf) lb,args:=#[.func (.yield (w.heap.size+1)) #[] #[]]},(w.alloc (.deferred (some []))).alloc (.loop rec),gf,
  #[.func (.yield (w.heap.size+1)) #[] #[]]++lb,(w.alloc (.deferred (some []))).alloc (.loop rec),?_,?_,?_,?_,fun _=>by omega,?_⟩
 ·rw[hrec];exact run_enterLoop_outer _ _ _ _ _
 ·simp only[resolve,hg];simp[go_sem]
 ·intro f' hf';simp[Target.leads]at hf';subst hf';trivial
 ·simp[invoke,go_sem,eg]
 ·refine(hcall (w.heap.size+1) (.loop rec) _ rfl rfl rfl ?_).mono ?_
  ·intro W hl;have hlt:w.heap.size+1<W.heap.size:=(qX.1 hl).1;have hy:(Instr.yield (w.heap.size+1) #[]).run P W=.ok (.round (w.heap.size+1) fn a.tmps assign body) W:=by
    have h:=run_yield (P:=P) (args:=#[]) hl (by rw[hrec];rfl);rw[hrec]at h;simpa using h
   refine⟨fn,_,assign,body,hy,roundIn_of_wpIn hfn (hassign _ W _ ?_)⟩;refine⟨_,run_beginRound hl (by rw[hrec]),?_⟩;refine wpIn_mono (hbody _ _) ?_;rintro e a3 W3 ⟨rfl,rfl⟩;have hl2:(W.putObj (w.heap.size+1) (.loop {rec with state:=.busy})).heap[w.heap.size+1]?=some (.loop {rec with state:=.busy}):=World.putObj_heap_same hlt;refine⟨_,_,run_endRound (P:=P) none hl2,rfl,?_⟩;have e:({({rec with state:=.busy}:Loop)with state:=if(none:Option Code).isNone then .ready else .done,pending:=none}:Loop)=rec:=by rw[hrec];rfl
   rw[e];exact NJ hl
  ·rintro e W2 ⟨⟨v,rfl⟩,hl,hR⟩;have:=run_endLoop (P:=P) hl (by rw[hrec];simp);rw[hrec]at this;exact⟨none,_,this,hdone _ _ hR⟩
end
section
open Go.RowKit Go.ChangeShapes Go.WideShapes
structure zJ1(w:World)(A:Option Addr)(n c:Nat)(l:List Ev):Prop where
 ev:Evs w A n l
 cap:n≤c
 max:c≤maxLen
theorem zJ1.step{w w':World}{A:Option Addr}{n c:Nat}{l:List Ev}(h:zJ1 w A n c l)(hb:Below w.heap.size w w'):zJ1 w' A n c l:=⟨h.ev.step hb,h.cap,h.max⟩
section
variable {H:Type} {enc:TypeId×Value→H} {W:World} {r:Reach} {base:Nat}
theorem zZP{fuel:Nat}{cs:List Value}{x:DataW H×List MemPlace}(h:DataW.trod enc Tryz.prog W 0 (fun _=>true) true fuel 69 cs=some x):∃e:Ev,cs=(ec e).toList∧e.ok:=by
 have hc:Tryz.prog.cellsOf 69=2:=zLP;have hi:Tryz.prog.cellsOf 3=1:=zLP;have hb:Tryz.prog.cellsOf 4=1:=zLP;obtain⟨xs,n,_,hx,hcl,hlen,hg⟩:=DataW.trod_struct Tryz.underlying69 h;match cs,hcl.trans hc,xs,hlen with
 |[c0,c1],_,[y0,y1],_=>
  have g0:=hg 0 _ rfl
  have g1:=hg 1 _ rfl
  simp[hi,hb]at g0 g1
  obtain⟨a0,e0,_,s0⟩:=kS Tryz.underlying3 g0
  obtain⟨a1,e1,_⟩:=jE Tryz.underlying4 g1
  simp only[List.cons.injEq,and_true]at e0 e1
  subst e0 e1
  exact⟨⟨a0,a1⟩,rfl,Num.bd_i64 s0⟩
end
structure LQ(w:World)(A:Option Addr)(n c:Nat)(L:List Int):Prop where
 rd:Rd w A L
 len:L.length=n
 cap:n≤c
 max:c≤maxLen
 bd:∀x∈L,0≤x∧x≤255
theorem LQ.below{w w':World}{A:Option Addr}{n c:Nat}{L:List Int}(h:LQ w A n c L)(hb:Below w.heap.size w w'):LQ w' A n c L:=⟨h.rd.below hb,h.len,h.cap,h.max,h.bd⟩
theorem sL:laidOutB Tryz.prog=true:=by kernel_rfl
section
variable {H:Type} {enc:TypeId×Value→H} {W:World} {r:Reach} {base:Nat}
theorem A6{fuel:Nat}{A:Option Addr}{n c:Nat}{x:DataW H×List MemPlace}(h:DataW.trod enc Tryz.prog W 0 (fun _=>true) true fuel 22 [.slice A n c]=some x):∃L,LQ W A n c L:=by
 rcases open_ints Tryz.underlying22 Tryz.underlying5 zLP h with⟨hcs,_⟩|⟨a,len,cap,zs,hcs,hb,hl,hm,hz,_,hcell,hw⟩
 ·injection hcs with hcs
  injection hcs with e1 e2 e3
  subst e1;subst e2;subst e3;exact⟨[],Rd.nil,rfl,zH _,qC _,fun x hx=>by cases hx⟩
 ·injection hcs with hcs
  injection hcs with e1 e2 e3
  subst e1;subst e2;subst e3;simp only[if_true]at hz;refine⟨zs.take n,fun hne=>?_,by rw[qT];omega,hl,hm,fun x hx=>Num.bd_u8 (hw x (List.mem_of_mem_take hx))⟩;have h0:0<n:=by
   rcases Nat.eq_zero_or_pos n with e|e
   ·subst e;exact absurd (List.take_zero) hne
   ·exact e
  have hlt:=kV W _ (hcell 0 zLF);rw[yV]at hlt;refine⟨a,rfl,hlt,fun j hj=>?_⟩;rw[qT]at hj;rw[hcell j zLF,kQ,qK,zS zLF];rfl
theorem pH{v:Value}{d:DataW H}{p:List MemPlace}(hv:Value.okWide Tryz.prog W r base 22 v)(h:DataW.Trod enc Tryz.prog W 0 (fun _=>true) true 22 v d p):∃A n c L,v=.slice A n c∧LQ W A n c L:=by
 obtain⟨A,n,c,rfl⟩:=okWide_slice Tryz.underlying22 hv;obtain⟨fuel,hf⟩:=h;obtain⟨L,hL⟩:=A6 hf;exact⟨A,n,c,L,rfl,hL⟩
end
structure Fm where
 A:Option Addr
 n:Nat
 c:Nat
 ev:List Ev
 u:Nat
def fmC(f:Fm):Array Value:=#[.slice f.A f.n f.c,.int .u8 (f.u:Int)]
structure IL(f:Fm)(w:World):Prop where
 ev:zJ1 w f.A f.n f.c f.ev
 u8:f.u<256
theorem IL.step{f:Fm}{w w':World}(h:IL f w)(hb:Below w.heap.size w w'):IL f w':=⟨h.ev.step hb,h.u8⟩
structure TO(w:World)(A:Option Addr)(n c:Nat)(l:List Fm):Prop where
 len:l.length=n
 cap:n≤c
 max:c≤maxLen
 at_:∀i (h:i<l.length),∃b o,A=some ⟨b,o,none⟩∧b<w.heap.size∧w.cell? ⟨b,o+i*2,none⟩=some (.slice (l[i]).A (l[i]).n (l[i]).c)∧w.cell? ⟨b,o+i*2+1,none⟩=some (.int .u8 ((l[i]).u:Int))∧IL (l[i]) w
theorem TO.step{w w':World}{A:Option Addr}{n c:Nat}{l:List Fm}(h:TO w A n c l)(hb:Below w.heap.size w w'):TO w' A n c l:=
 ⟨h.len,h.cap,h.max,fun i hi=>by
  obtain⟨b,o,e,lt,r1,r2,k⟩:=h.at_ i hi;exact⟨b,o,e,zF lt hb.size,(hb.cell (p:=⟨b,o+i*2,none⟩) lt).trans r1,(hb.cell (p:=⟨b,o+i*2+1,none⟩) lt).trans r2,k.step hb⟩⟩
section
variable {H:Type} {enc:TypeId×Value→H} {W:World} {r:Reach} {base:Nat}
theorem F8{fuel:Nat}{cs:List Value}{x:DataW H×List MemPlace}(hf:DataW.trod enc Tryz.prog W 0 (fun _=>true) true fuel 48 cs=some x):∃A n c l,cs=[.slice A n c]∧zJ1 W A n c l:=by
 have ce:Tryz.prog.cellsOf 69=2:=zLP;rcases Go.Deep.open_slice Tryz.underlying48 hf with⟨hcs,_⟩|⟨a,len,cap,m,k,D,Pl,hcs,hb,hl,hm,hmm,_,hi⟩
 ·exact⟨none,0,0,[],hcs,⟨rfl,qC _,fun i hi=>absurd hi (Nat.not_lt_zero i)⟩,zH _,qC _⟩
 ·simp only[if_true]at hmm;have each:∀i,i<len→∃e:Ev,(∀j v,(ec e).toList[j]?=some v→W.cell? ((a.add (i*2)).add j)=some v)∧e.ok:=by
   intro i hin;obtain⟨cs',h1,h2⟩:=hi i zLF;rw[ce]at h1;obtain⟨_,hlen,hcell⟩:=World.cells?_some h1;obtain⟨e,he,ok⟩:=zZP h2;refine⟨e,fun j v hv=>?_,ok⟩;have hj:j<2:=by
    have:=(kN.1 hv).1;simpa [ec]using this
   rw[hcell j hj,he];exact hv
  obtain⟨f,hf⟩:=Go.Deep.choose_lt each
  refine⟨some a,len,cap,(List.range len).map f,hcs,⟨by simp,by omega,fun i hin=>?_⟩,hl,hm⟩;exact zM7
theorem zZL{fuel:Nat}{cs:List Value}{x:DataW H×List MemPlace}(h:DataW.trod enc Tryz.prog W 0 (fun _=>true) true fuel 50 cs=some x):∃f:Fm,cs=(fmC f).toList∧IL f W:=by
 have hc:Tryz.prog.cellsOf 50=2:=zLP;have hs:Tryz.prog.cellsOf 48=1:=zLP;have hb:Tryz.prog.cellsOf 5=1:=zLP;obtain⟨xs,n,_,hx,hcl,hlen,hg⟩:=DataW.trod_struct Tryz.underlying50 h;match cs,hcl.trans hc,xs,hlen with
 |[c0,c1],_,[y0,y1],_=>
  have g0:=hg 0 _ rfl
  have g1:=hg 1 _ rfl
  simp[hs,hb]at g0 g1
  obtain⟨A,m,c,l,e0,ok⟩:=F8 g0
  obtain⟨a1,e1,_,s1⟩:=kS Tryz.underlying5 g1
  simp only[List.cons.injEq,and_true]at e0 e1
  subst e0 e1
  have t:=Num.bd_u8 s1
  obtain⟨m1,rfl⟩:∃m1:Nat,a1=(m1:Int):=⟨a1.toNat,by omega⟩
  exact⟨⟨A,m,c,l,m1⟩,rfl,ok,show m1<256 by omega⟩
theorem NR{v:Value}{d:DataW H}{p:List MemPlace}(hv:Value.okWide Tryz.prog W r base 25 v)(h:DataW.Trod enc Tryz.prog W 0 (fun _=>true) true 25 v d p):∃A n c l,v=.slice A n c∧TO W A n c l:=by
 obtain⟨A,n,c,rfl⟩:=okWide_slice Tryz.underlying25 hv;obtain⟨fuel,hf⟩:=h;have ce:Tryz.prog.cellsOf 50=2:=zLP;rcases Go.Deep.open_slice Tryz.underlying25 hf with⟨hcs,_⟩|⟨a,len,cap,m,k,D,Pl,hcs,hb,hl,hm,hmm,_,hi⟩
 ·injection hcs with hcs
  injection hcs with e1 e2 e3
  subst e1;subst e2;subst e3;exact⟨none,0,0,[],rfl,rfl,zH _,qC _,fun i hi=>absurd hi (Nat.not_lt_zero i)⟩
 ·injection hcs with hcs
  injection hcs with e1 e2 e3
  subst e1;subst e2;subst e3;simp only[if_true]at hmm;have each:∀i,i<n→∃f:Fm,(∀j v,(fmC f).toList[j]?=some v→W.cell? ((a.add (i*2)).add j)=some v)∧IL f W:=by
   intro i hin;obtain⟨cs',h1,h2⟩:=hi i zLF;rw[ce]at h1;obtain⟨_,hlen,hcell⟩:=World.cells?_some h1;obtain⟨f,he,ok⟩:=zZL h2;refine⟨f,fun j v hv=>?_,ok⟩;have hj:j<2:=by
    have:=(kN.1 hv).1;simpa [fmC]using this
   rw[hcell j hj,he];exact hv
  have:Inhabited Fm:=⟨⟨none,0,0,[],0⟩⟩
  obtain⟨f,hf⟩:=Go.Deep.choose_lt each;refine⟨some a,n,c,(List.range n).map f,rfl,by simp,hl,hm,fun i hin=>?_⟩;exact zM7
end
end
end Go.Proofs.YtbpniahcjbagmaaGreatDoor
