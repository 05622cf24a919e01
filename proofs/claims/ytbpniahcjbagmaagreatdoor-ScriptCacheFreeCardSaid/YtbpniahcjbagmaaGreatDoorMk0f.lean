/- AluSpec, Aud, Font, KeyLow, MemRead, MemClone, IcNum, InsEq, IcRm, TimNum, Tim, KeyApp2, Prof, ProfNum, RangeStill, KeyOpen, BytOpen, FrmOpen, IntOpen, SptOpen. -/
import Derived.Test.YtbpniahcjbagmaaGreatDoorRows
import Derived.Test.YtbpniahcjbagmaaGreatDoorProg
import Derived.Test.YtbpniahcjbagmaaGreatDoorMk0e
set_option maxRecDepth 400000
set_option maxHeartbeats 64000000
set_option linter.unusedVariables false
set_option linter.unusedSimpArgs false
namespace Go.Proofs.YtbpniahcjbagmaaGreatDoor
section
open Go.RowKit Num Dec Cpu
def d3(b:Nat):Array Value:=#[.int .u8 ((b:Int)/100),.int .u8 ((b:Int)/10%10),.int .u8 ((b:Int)%10)]
structure zHG:Prop where
 do_:∀(v:Nat→Nat) (op:Int) (x y nn:Nat) (n addr len:Int) (q:Pr) (w:World),OkV v→x<16→y<16→nn<256→∀(hop:(Lit.int .i64 op).wf=true:=by decide),
  Calls Tryz.prog 122 #[.agg (rg v),.agg (lB ⟨op,x,y,n,nn,addr,len⟩),.agg (prc q)] w fun e w'=>e=.returned (.tuple #[.agg (rg (bQ v ⟨op,x,y,n,nn,addr,len⟩ q)),.bool (eW op)])∧Below w.heap.size w w'
 sk:∀(v:Nat→Nat) (op:Int) (x y nn:Nat) (n addr len:Int) (w:World),OkV v→x<16→y<16→nn<256→
  Calls Tryz.prog 123 #[.agg (rg v),.agg (lB ⟨op,x,y,n,nn,addr,len⟩)] w fun e w'=>e=.returned (.tuple #[.bool (skB v ⟨op,x,y,n,nn,addr,len⟩),.bool (fX op)])∧Below w.heap.size w w'
 dg:∀(b:Nat) (w:World),b<256→Calls Tryz.prog 132 #[.int .u8 (b:Int)] w fun e w'=>e=.returned (.agg (d3 b))∧Below w.heap.size w w'
theorem zH8:vZ Tryz.prog 232 3:=⟨⟨_,Tryz.underlying232,rfl⟩,by kernel_rfl⟩
theorem zZR:nH Tryz.prog 232 #[.int .u8 0,.int .u8 0,.int .u8 0]:=by unfold nH;kernel_rfl
theorem zVB(b:Nat):n8 (d3 b):=by unfold n8 d3;simp[Value.oneCell']
theorem zNG(P:Nat→Int):eqP P P=true:=(zNR P P).2 fun _ _=>rfl
section
variable {ops:Array Oper} {C:World→Prop} {Q:Act→Prop} {o:Oper} {rest:List Oper} {ac:Act} {v:Nat→Nat} {a b c:Int}
end
end
section
open Go.RowKit Num
theorem PM(w:World):Calls Tryz.prog 46 #[] w fun e w'=>e=.returned (.agg (ac mM 64))∧Below w.heap.size w w':=by
 have hz:=zZT;go_enter Tryz.func46,Tryz.ntmps46;go_upto_region 1 with fail;have R:=zW (AB.new w mM 0);have B:=zW (lV w (.cells (ac mM 0) 84));generalize w.alloc (.cells (ac mM 0) 84)=w1 at*;obtain⟨r,hr⟩:∃r,w.heap.size=r:=⟨_,rfl⟩;have HR:=zW hr;rw[hr]at R B⊢;clear hr;refine zH ?_;refine lC (cs:=ac mM 64) rfl rfl (by simp[Act.eval];exact zQ4) ?_;simp only[Act.put,zQ,zZ,zJ];refine lM (ds:=ac mM 64) dX R.out (nP _ _) (nP _ _) (QQ _ _) rfl (.tmp 0) (.tmp 1) rfl zGK zGK ?_;have R2:=zW (R.out.store mM 64);have B2:=zW (dI B.out (zG _) (ac mM 64));generalize w1.setRow r (ac mM 64)=w2 at*;iterate 4 go_step
 exact zP (zE rfl _ _ r _ _ _ _ rfl R2.out Tryz.underlying84 rfl (by rw[dX.i,nP])) rfl ⟨rfl,by rw[HR.out];exact B2.out⟩
theorem zZ3(P:Nat→Int)(p q:Int)(w:World):Calls Tryz.prog 149 #[.agg (ac P p),.int .u8 q] w fun e w'=>e=.returned (.agg (ac P q))∧Below w.heap.size w w':=by
 have hz:=zZT;go_enter Tryz.func149,Tryz.ntmps149;go_upto_region 1 with fail;have S:=zW ((AB.new w P p).alloc (.cells (ac mM 0) 84));have R:=zW (AB.new (w.alloc (.cells (ac P p) 84)) mM 0);have B:=zW ((lV w (.cells (ac P p) 84)).alloc zGN (.cells (ac mM 0) 84));rw[zT]at R;generalize (w.alloc (.cells (ac P p) 84)).alloc (.cells (ac mM 0) 84)=w1 at*;clear hz;obtain⟨r,hr⟩:∃r,w.heap.size=r:=⟨_,rfl⟩;have HR:=zW hr;rw[hr]at S R B⊢;clear hr;have c0:=S.out.pitch;have f0:=S.out.fz 16;go_upto_region 2 with fail;clear c0 f0;have S2:=zW (S.out.tune q);have R2:=zW (R.out.other (g:=r) zGX 16 (.int .u8 q));have B2:=zW (B.out.setCell (p:=⟨r,16,none⟩) (zG _) (.int .u8 q));generalize w1.setCell ⟨r,16,none⟩ (.int .u8 q)=w2 at*;refine zH ?_;refine lL dX S2.out (nP _ _) rfl (.tmp 2) rfl zGB ?_;simp only[Act.put,zQ,zZ,zJ];refine lM (ds:=ac P q) dX R2.out (nP _ _) (nP _ _) (QQ _ _) rfl (.tmp 4) (.tmp 7) rfl zGK zGK ?_;have R3:=zW (R2.out.store P q);have B3:=zW (dI B2.out (jT r) (ac P q));generalize w2.setRow (r+1) (ac P q)=w3 at*;iterate 4 go_step
 exact zP (zE rfl _ _ (r+1) _ _ _ _ rfl R3.out Tryz.underlying84 rfl (by rw[dX.i,nP])) rfl ⟨rfl,by rw[HR.out];exact B3.out⟩
theorem TV(P:Nat→Int)(p:Int)(A:Option Addr)(n c:Nat)(L:List Int)(w:World)(H:Rd w A L)(hn:L.length=n):
  Calls Tryz.prog 148 #[.agg (ac P p),.slice A n c] w fun e w'=>e=.returned (.agg (ac (pad L) p))∧Below w.heap.size w w':=by
 have hz:=zZT;have HL:=zW (zM H hn);clear H hn;go_enter Tryz.func148,Tryz.ntmps148;go_upto_region 1 with fail;have S:=zW ((AB.new w P p).alloc (.cells (ac mM 0) 84));have R:=zW (AB.new (w.alloc (.cells (ac P p) 84)) mM 0);have B:=zW ((lV w (.cells (ac P p) 84)).alloc zGN (.cells (ac mM 0) 84));rw[zT]at R;generalize (w.alloc (.cells (ac P p) 84)).alloc (.cells (ac mM 0) 84)=w1 at*;clear hz;obtain⟨r,hr⟩:∃r,w.heap.size=r:=⟨_,rfl⟩;have HR:=zW hr;rw[hr]at S R B⊢;clear hr;refine zH ?_;refine lC (cs:=pc mM) rfl rfl (by simp[Act.eval];exact E4) ?_;simp only[Act.put,zQ,zZ,zJ];iterate 3 go_step
 refine nN (o:=0) (ds:=pc mM) xP S.out (nF _) zG9 (NY _) rfl (.tmp 6) (.tmp 5) rfl zGK zGK ?_;rw[zZH];have S2:=zW (S.out.store mM p);have R2:=zW (R.out.otherRow (g:=r) zGX (ac mM p));have B2:=zW (dI B.out (zG _) (ac mM p));generalize w1.setRow r (ac mM p)=w2 at*;simp only[Act.put,zQ,zZ,zJ];go_upto_region 2 with fail;refine zH ?_;iterate 9 go_step
 obtain⟨d,hd⟩:∃d,d=min n 16:=⟨_,rfl⟩;have hp:w2.heap[r]?=some (.cells ((xB mM++[p]).map (Value.int .u8)).toArray 84 (0,0)):=by rw[←IM];exact S2.out
 have RL:Rd w2 A L:=HL.out.1.below (by rw[HR.out];exact B2.out);obtain⟨w3,hrun,hg,ha⟩:=xQ 3 r 0 16 16 (some ⟨r,0,none⟩) (fun _=>rfl) A n c d hd L HL.out.2 RL _ 84 hp (by simp[m5]);rw[zHL]at hg;refine JC rfl (.tmp 8) (.tmp 9) rfl _ _ _ zGB zGB hrun 10 rfl ?_;have S3:=zW (show AB r (pad L) p w3 from hg);have R3:=zW (show AB (r+1) mM 0 w3 from((ha none).block (r+1) R2.out.lt zGX (fun e=>by cases e)).trans R2.out);have B3:=zW (B2.out.trans ((ha none).below (by have:=S2.out.lt;omega) (zG _) (fun k hk=>by cases hk)));clear hrun hg ha RL hp hd;simp only[zQ,zZ,zJ];go_upto_region 3 with fail;refine zH ?_;refine lL dX S3.out (nP _ _) rfl (.tmp 2) rfl zGB ?_;simp only[Act.put,zQ,zZ,zJ];refine lM (ds:=ac (pad L) p) dX R3.out (nP _ _) (nP _ _) (QQ _ _) rfl (.tmp 4) (.tmp 11) rfl zGK zGK ?_;have R4:=zW (R3.out.store (pad L) p);have B4:=zW (dI B3.out (jT r) (ac (pad L) p));generalize w3.setRow (r+1) (ac (pad L) p)=w4 at*;iterate 4 go_step
 exact zP (zE rfl _ _ (r+1) _ _ _ _ rfl R4.out Tryz.underlying84 rfl (by rw[dX.i,nP])) rfl ⟨rfl,by rw[HR.out];exact B4.out⟩
theorem WZ(n:Int)(w:World)(h:0≤n):Calls Tryz.prog 131 #[.int .i64 n] w fun e w'=>e=.returned (.int .i64 (n%16))∧w=w':=by
 have e:=iI n 16 h;go_enter Tryz.func131,Tryz.ntmps131;go_wp2;go_ret;exact⟨wM zGX,rfl⟩
theorem YS(n:Int)(w:World)(h:0≤n):Calls Tryz.prog 100 #[.int .i64 n] w fun e w'=>e=.returned (.int .i64 (80+5*(n%16)))∧w=w':=by
 go_enter Tryz.func100,Tryz.ntmps100;exact zR0
theorem zZZ(n:Int)(w:World)(h:0≤n):Calls Tryz.prog 101 #[.int .i64 n] w fun e w'=>e=.returned (.int .i64 (160+10*(n%16)))∧w=w':=by
 go_enter Tryz.func101,Tryz.ntmps101;exact zR0
def zLC(K:Nat→Bool)(n:Int):Bool:=decide (0≤n)&&K (n%16).toNat
theorem DU(K:Nat→Bool)(n:Int)(w:World)(h1:n≤9223372036854775807):
  Calls Tryz.prog 125 #[.agg (kc K),.int .i64 n] w fun x w'=>x=.returned (.bool (zLC K n))∧Below w.heap.size w w':=by
 unfold zLC;by_cases h0:0≤n
 ·obtain⟨m,rfl⟩:=jW h0;obtain⟨j,hj⟩:∃j:Nat,(m:Int)%16=(j:Int):=⟨((m:Int)%16).toNat,by omega⟩;have j0:0≤(j:Int):=zGX;have j1:(j:Int)<16:=zGX;have j2:j<16:=zGX;rw[qY h0,Bool.true_and,hj,Int.toNat_natCast];have P:=zW (KB.new w K);have B:=zW (gS w (.cells (kc K) 74));have c1:=P.out.cell j2;obtain⟨v,hv⟩:∃v,K j=v:=⟨_,rfl⟩;rw[hv]at c1⊢;clear hv P;go_enter Tryz.func125,Tryz.ntmps125;go_upto_region 1 with fail;generalize w.alloc (.cells (kc K) 74)=w1 at*;obtain⟨p,hp⟩:∃p,w.heap.size=p:=⟨_,rfl⟩;have HP:=zW hp;rw[hp]at c1⊢;clear hp;go_wp2;go_ret;exact⟨rfl,B.out⟩
 ·rw[zO h0,Bool.false_and];go_enter Tryz.func125,Tryz.ntmps125;go_wp2;go_ret;exact⟨rfl,gS _ _⟩
theorem VZ(p:Nat)(M:List Int)(v:Value)(a x:Int)(k:Nat)(w:World)(hM:M.length=65536)(hp:nV p M v w)(hk:a%65536=k)(hx:M[k]?=some x):
  Calls Tryz.prog 165 #[.pointer (some ⟨p,0,none⟩),.int .i64 a] w (Reads (.int .u8 x) w):=by
 have hc:w.cell? ⟨p,k,none⟩=some (.int .u8 x):=by
  rw[hp.cell hM k zGX];rw[zS zGX]at hx;injection hx with hx
  rw[hx]
 have k0:0≤(k:Int):=zGX;have k1:(k:Int)<65536:=zGX;have H:=zW hk;clear hk hx hp hM;go_enter Tryz.func165,Tryz.ntmps165;go_wp2;go_quiet ((go_at_call 77;exact Calls.quiet_of_same (t6 _ _ _ H.out)))
 go_wp2;go_ret;exact⟨rfl,_,rfl⟩
theorem LQ:∀(L:List Value) (k:Nat) (cs:Array Value),k+L.length≤cs.size→
  (L.zipIdx k).foldl (fun cs (x:Value×Nat)=>cs.setIfInBounds x.2 x.1) cs=(cs.toList.take k++L++cs.toList.drop (k+L.length)).toArray
 |[],k,cs,_=>by simp
 |x::L,k,cs,h=>by
  simp only[List.length_cons]at h;rw[List.zipIdx_cons,List.foldl_cons,LQ L (k+1) _ zGH];have e:=list_seg_step cs.toList k x L zGH;congr 1
  simpa using e
theorem zL1:(Tryz.prog.info? 140).map (·.size)=some 65536:=by kernel_rfl
theorem zQ8(M:List Int)(hM:M.length=65536)(w:World):(Instr.build 144 #[(0,.agg (arr M))]).run Tryz.prog w=.ok (.agg (cells M (.slice none 0 0))) w:=by
 have hf:Instr.fill (fun i=>(#[(0,65536),(65536,1)]:Array (Nat×Nat))[i]?) (cells xM (.slice none 0 0)) [(0,.agg (arr M))]=some (cells M (.slice none 0 0)):=by
  have e0:(#[(0,65536),(65536,1)]:Array (Nat×Nat))[0]?=some (0,65536):=rfl;have e1:(arr M).size=65536:=by rw[ZO,hM]
  have e2:(cells xM (.slice none 0 0)).size=65537:=by unfold cells;simp[xX]
  have e3:(arr M).zipIdx.foldl (fun cs (x:Value×Nat)=>cs.setIfInBounds (0+x.2) x.1) (cells xM (.slice none 0 0))=cells M (.slice none 0 0):=by
   have h:=LQ (M.map (Value.int .u8)) 0 (cells xM (.slice none 0 0)) (by rw[e2];simp[hM]);simp only[qL];rw[←Array.foldl_toList,Array.toList_zipIdx];refine h.trans ?_;unfold cells;simp[hM,xX]
  unfold Instr.fill;simp only[e0,Value.cells,e1,e2];rw[zL zGN];show Instr.fill _ ((arr M).zipIdx.foldl (fun cs (x:Value×Nat)=>cs.setIfInBounds (0+x.2) x.1) (cells xM (.slice none 0 0))) []=_;rw[e3];rfl
 refine run_build w 144 _ _ ?_;obtain⟨it,hit,hz⟩:=kT.1 CN;simp only[kQ]at hz;have hp:(match Tryz.prog.underlying 144 with|some (.struct fields)=>fields.toList.mapM (fun f=>(Tryz.prog.info? f.type).map fun i=>(f.offset,i.size))|_=>none)=some [(0,65536),(65536,1)]:=by kernel_rfl
 rw[Tryz.underlying144]at hp;unfold Program.built;rw[hit,Tryz.underlying144];simp only at hp⊢;rw[hz.1,hp];exact hf
theorem p8{P:Program}{ops:Array Oper}{rest:List Oper}{o:Oper}{a:Act}{w:World}{Q:Exit→Act→World→Prop}(hgd:o.guard=none)(ty:TypeId)(parts:Array (Nat×Operand))(ho:o.op=.build ty parts)
  (ps:Array (Nat×Value)) (hp:(parts.map fun x=>(x.1,a.eval x.2))=ps) (r:Value) (hrun:(Instr.build ty ps).run P w=.ok r w) (h:wpList P ops Q rest (a.put o.dst r) w):wpList P ops Q (o::rest) a w:=by
 subst hp;refine qZ hgd fun K hK=>?_;unfold Oper.wp execOp;simp only[ho,zA,hrun,Result.andThen_ok,Sem.run_pure];exact hK _ _ h
def Cloned(M:List Int)(w:World)(e:Ending)(w':World):Prop:=
 ∃q,e=.returned (.pointer (some ⟨q,0,none⟩))∧w.heap.size≤q∧nV q M (.slice none 0 0) w'∧Below w.heap.size w w'
theorem zQC(p:Nat)(M:List Int)(v:Value)(w:World)(hM:M.length=65536)(hp:nV p M v w):
  Calls Tryz.prog 42 #[.pointer (some ⟨p,0,none⟩)] w (Cloned M w):=by
 have hb:=zQ8 M hM;have H:=zW (zM hM hp);clear hM hp;go_enter Tryz.func42,Tryz.ntmps42;go_upto_region 3 with fail;refine zH ?_;iterate 9 go_step
 refine uU rfl 140 (.tmp 7) rfl ⟨p,0,none⟩ zGB M _ (fun j h=>by rw[pU,qL];exact H.out.2.cell H.out.1 j (by rw[←H.out.1];exact h)) Tryz.underlying140 rfl (by rw[zL1,H.out.1]) ?_;refine p8 rfl 144 #[(0,.tmp 8)] rfl #[(0,.agg (arr M))] zGK _ (hb w) ?_;clear hb;go_wp2;go_ret;exact⟨w.heap.size,rfl,zG _,jH _ _,(zB _ _).alloc (zG _) _⟩
end
section
open Num Dec
def pK(x a n:Int):Bool:=decide ((x-a)%65536<n)||(decide ((x+1-a)%65536<n)||(decide ((x+2-a)%65536<n)||decide ((x+3-a)%65536<n)))
theorem zKE{x a n:Int}(h:pK x a n=false):∀k:Int,0≤k→k<4→¬(x+k-a)%65536<n:=by
 unfold pK at h;simp only[Bool.or_eq_false_iff,decide_eq_false_iff_not]at h;obtain⟨h0,h1,h2,h3⟩:=h;intro k k0 k4;have:k=0∨k=1∨k=2∨k=3:=by omega
 rcases this with rfl|rfl|rfl|rfl
 ·rwa [Int.add_zero]
 ·exact h1
 ·exact h2
 ·exact h3
theorem zL3{x a n:Int}(h:pK x a n=true):∃k:Int,0≤k∧k<4∧(x+k-a)%65536<n:=by
 unfold pK at h;simp only[Bool.or_eq_true,qK]at h;rcases h with h|h|h|h
 ·exact⟨0,by omega,by omega,by rwa [Int.add_zero]⟩
 ·exact⟨1,by omega,by omega,h⟩
 ·exact⟨2,by omega,by omega,h⟩
 ·exact⟨3,by omega,by omega,h⟩
theorem zL4{x a n:Int}:pK x a n=true↔∃k:Int,0≤k∧k<4∧(x+k-a)%65536<n:=by
 refine⟨zL3,fun⟨k,k0,k4,h⟩=>?_⟩;cases hb:pK x a n
 ·exact absurd h (zKE hb k k0 k4)
 ·rfl
def uC(M:List Int)(x:Int)(k:Nat):Nat:=((seg M x 4).getD k 0).toNat
def yV(M:List Int)(x l:Int):Ins:=dec (uC M x 0) (uC M x 1) (uC M x 2) (uC M x 3) l
abbrev nB:=List (Nat×Ins)
def rB(l:nB)(a n:Int):nB:=l.filter fun p=> !pK (p.1:Int) a n
def mG(l:nB)(x:Nat):Option Ins:=match l with
 |[]=>none
 |p::t=>if p.1=x then some p.2 else mG t x
theorem JE:∀(l:nB) (a n:Int) (x:Nat),mG (rB l a n) x=if pK (x:Int) a n=true then none else mG l x
 |[],a,n,x=>by simp[rB,mG]
 |p::t,a,n,x=>by
  have ih:=JE t a n x;unfold rB at ih⊢;rw[List.filter_cons];cases hp:pK (p.1:Int) a n
  ·simp only[Bool.not_false,if_true];unfold mG;by_cases h:p.1=x
   ·rw[zN h,zN h];rw[h]at hp;rw[hp];simp
   ·rw[zL h,zL h,ih]
  ·simp only[Bool.not_true,Bool.false_eq_true,if_false];rw[ih];by_cases h:p.1=x
   ·rw[h]at hp;rw[hp];simp
   ·show _=if pK (x:Int) a n=true then none else mG (p::t) x;conv=>rhs;unfold mG
    rw[zL h]
theorem dG:∀(l:nB) (y:Nat) (i:Ins) (x:Nat),mG (l++[(y,i)]) x=match mG l x with|some j=>some j|none=>if y=x then some i else none
 |[],y,i,x=>by simp[mG]
 |p::t,y,i,x=>by
  rw[List.cons_append];unfold mG;by_cases h:p.1=x
  ·rw[zN h,zN h]
  ·rw[zL h,zL h,dG t y i x]
def rP(l:nB):Prop:=(l.map (·.1)).Nodup
theorem rP.drop{l:nB}(h:rP l)(a n:Int):rP (rB l a n):=by
 unfold rP rB at*;exact h.sublist ((List.filter_sublist).map _)
theorem OS{l:nB}{x:Nat}(h:mG l x=none):x ∉ l.map (·.1):=by
 induction l with
 |nil=>simp
 |cons p t ih=>
  unfold mG at h
  by_cases e:p.1=x
  ·rw[zN e]at h;cases h
  ·rw[zL e]at h
   rw[List.map_cons,List.mem_cons,not_or]
   exact⟨fun c=>e c.symm,ih h⟩
theorem rP.snoc{l:nB}(h:rP l){y:Nat}(i:Ins)(hn:mG l y=none):rP (l++[(y,i)]):=by
 unfold rP at*;rw[kY,List.nodup_append];refine⟨h,by simp,?_⟩;intro a ha b hb;simp at hb;subst hb;intro e;exact OS hn (e▸ha)
end
section
open Go.RowKit Dec
section
variable {ops:Array Oper} {C:World→Prop} {i j:Ins}
end
end
section
open Num Dec
def rmE(l:nB)(x:Nat):nB:=l.filter fun p=>decide (p.1≠x)
theorem CZ:∀(l:nB) (x y:Nat),mG (rmE l x) y=if y=x then none else mG l y
 |[],x,y=>by simp[rmE,mG]
 |p::t,x,y=>by
  have ih:=CZ t x y;unfold rmE at ih⊢;rw[List.filter_cons];by_cases hp:p.1=x
  ·rw[zL (by simp[hp]),ih];by_cases h:y=x
   ·rw[zN h,zN h]
   ·rw[zL h,zL h];conv=>rhs;unfold mG
    rw[zL zGX]
  ·rw[zN (by simp[hp])];unfold mG;by_cases h:p.1=y
   ·rw[zN h,zL zGX,zN h]
   ·rw[zL h,ih,zL h]
theorem MC:∀(l:nB) (x:Nat),mG l x=none→rmE l x=l
 |[],x,_=>rfl
 |p::t,x,h=>by
  unfold mG at h;by_cases hp:p.1=x
  ·rw[zN hp]at h;cases h
  ·rw[zL hp]at h;have ih:=MC t x h;unfold rmE at ih⊢;rw[List.filter_cons,zN (by simp[hp]),ih]
theorem zJ2:∀(l:nB) (x:Nat) (i:Ins),rP l→mG l x=some i→(rmE l x).length+1=l.length
 |p::t,x,i,ho,h=>by
  unfold rP at ho;rw[List.map_cons,List.nodup_cons]at ho;unfold mG at h;by_cases hp:p.1=x
  ·have hn:mG t x=none:=by
    cases hq:mG t x with
    |none=>rfl
    |some j=>
     exfalso
     apply ho.1
     rw[hp]
     clear ho h
     induction t with
     |nil=>simp[mG]at hq
     |cons q t ih=>
      unfold mG at hq
      by_cases e:q.1=x
      ·simp[e]
      ·rw[zL e]at hq
       rw[List.map_cons,List.mem_cons]
       exact .inr (ih hq)
   have e:=MC t x hn;unfold rmE at e⊢;rw[List.filter_cons,zL (by simp[hp]),e,List.length_cons]
  ·rw[zL hp]at h;have ih:=zJ2 t x i ho.2 h;unfold rmE at ih⊢;rw[List.filter_cons,zN (by simp[hp]),List.length_cons,List.length_cons];omega
theorem rP.rm{l:nB}(h:rP l)(x:Nat):rP (rmE l x):=by
 unfold rP rmE at*;exact h.sublist ((List.filter_sublist).map _)
theorem rm_le(l:nB)(x:Nat):(rmE l x).length≤l.length:=List.length_filter_le _ _
def rmN(l:nB)(a:Int):Nat→nB
 |0=>l
 |j+1=>rmE (rmN l a j) ((a+(j:Int))%65536).toNat
theorem oN(l:nB)(a:Int):∀j,rmN l a j=l.filter fun p=>decide (∀k,k<j→p.1≠((a+(k:Int))%65536).toNat)
 |0=>by
  unfold rmN;rw[eq_comm,List.filter_eq_self];intro p _;simp
 |j+1=>by
  unfold rmN;rw[oN l a j];unfold rmE;rw[List.filter_filter];apply List.filter_congr
  intro p _
  rw[←Bool.decide_and,decide_eq_decide];constructor
  ·rintro⟨h1,h2⟩ k hk;by_cases e:k=j
   ·subst e;exact h1
   ·exact h2 k zGX
  ·intro h;exact⟨h j zGX,fun k hk=>h k zGX⟩
def oK(n:Int):Nat:=(min n 65533+3).toNat
theorem zJ4(l:nB)(a n:Int)(hl:∀p∈l,p.1<65536)(n0:0<n)(n1:n≤65536):rmN l (a-3) (oK n)=rB l a n:=by
 rw[oN];unfold rB;apply List.filter_congr
 intro p hp
 have hp:=hl p hp;rw[Bool.eq_iff_iff,qK,Bool.not_eq_true',←Bool.not_eq_true,zL4];unfold oK;constructor
 ·rintro h ⟨k,k0,k4,hk⟩;by_cases hs:n≤65533
  ·refine h (3-k+((p.1:Int)+k-a)%65536).toNat zGX ?_;omega
  ·refine h (((p.1:Int)-a+3)%65536).toNat zGX ?_;omega
 ·intro h j hj e;apply h
  by_cases h3:j<3
  ·exact⟨3-(j:Int),by omega,by omega,by omega⟩
  ·by_cases hs:n≤65533
   ·exact⟨0,by omega,by omega,by omega⟩
   ·by_cases h4:(j:Int)-3<n
    ·exact⟨0,by omega,by omega,by omega⟩
    ·exact⟨3,by omega,by omega,by omega⟩
theorem zJ3(l:nB)(a:Int):∀j,(rmN l a j).length≤l.length
 |0=>zG _
 |j+1=>zR (rm_le _ _) (zJ3 l a j)
def dropL(l:nB):List (Int×Int)→nB
 |[]=>l
 |s::t=>dropL (if 0<s.2 then rB l s.1 s.2 else l) t
theorem ZR(l:nB)(s:Int×Int):∀t,dropL l (t++[s])=if 0<s.2 then rB (dropL l t) s.1 s.2 else dropL l t
 |[]=>rfl
 |x::t=>by
  rw[List.cons_append];unfold dropL;exact ZR _ s t
theorem WE(l:nB)(a n:Int):(rB l a n).length≤l.length:=List.length_filter_le _ _
theorem pH:∀(t:List (Int×Int)) (l:nB),(dropL l t).length≤l.length
 |[],l=>zG _
 |s::t,l=>by
  unfold dropL;refine zR (pH t _) ?_;split
  ·exact WE _ _ _
  ·exact zG _
end
section
def lw(v n:Int):Int:=max 0 (v-max 0 n)
theorem lw_neg{v n:Int}(h0:0≤v)(h:n≤0):v=lw v n:=by unfold lw;omega
theorem lw_big{v n:Int}(h0:0≤v)(h:v≤n):(0:Int)=lw v n:=by unfold lw;omega
theorem lw_mid{v n:Int}(h:0<n)(h1:n<v):v-n=lw v n:=by unfold lw;omega
end
section
open Go.RowKit Num
theorem YH{f:FuncId}{args:Array Value}{v:Value}{w:World}(h:Calls Tryz.prog f args w fun e w'=>e=.returned v∧w=w'):Calls Tryz.prog f args w fun e w'=>e=.returned v∧w'=w:=
 h.mono fun _ _ ⟨he,hw⟩=>⟨he,hw.symm⟩
theorem JP(v n:Int)(w:World)(h0:0≤v)(h1:v≤255)(hn:n≤9223372036854775807):
  Calls Tryz.prog 70 #[.int .u8 v,.int .i64 n] w fun e w'=>e=.returned (.int .u8 (lw v n))∧w=w':=by
 by_cases c:n≤0
 ·clear hn;have E:=zW (lw_neg h0 c);exact zRG
 ·by_cases d:v≤n
  ·have E:=zW (lw_big h0 d);exact zRG
  ·have E:=zW (lw_mid zGX (by omega:n<v));have n0:0≤n:=zGX;have n1:n≤255:=zGX;clear hn;exact zRG
theorem AK{w:World}{b:Nat}{T:TypeId}{d s:Value}(u v:Value)(c0:w.cell? ⟨b,0,none⟩=some d)(c1:w.cell? ⟨b,1,none⟩=some s):
  ((w.setCell ⟨b,0,none⟩ u).setCell ⟨b,1,none⟩ v).cell? ⟨b,0,none⟩=some u∧((w.setCell ⟨b,0,none⟩ u).setCell ⟨b,1,none⟩ v).cell? ⟨b,1,none⟩=some v:=by
 have h0:=World.cell?_setCell_same w (a:=⟨b,0,none⟩) u c0;have h1:=qS w ⟨b,0,none⟩ ⟨b,1,none⟩ u (by intro c;cases c);exact⟨(qS _ ⟨b,1,none⟩ ⟨b,0,none⟩ v (by intro c;cases c)).trans h0,World.cell?_setCell_same _ (a:=⟨b,1,none⟩) v (h1.trans c1)⟩
theorem zZN(d s n:Int)(w:World)(d0:0≤d)(d1:d≤255)(s0:0≤s)(s1:s≤255)(hn:n≤9223372036854775807):
  Calls Tryz.prog 56 #[.agg #[.int .u8 d,.int .u8 s],.int .i64 n] w fun e w'=>e=.returned (.agg #[.int .u8 (lw d n),.int .u8 (lw s n)])∧Below w.heap.size w w':=by
 have HD:=zW fun w=>YH (JP d n w d0 d1 hn);have HS:=zW fun w=>YH (JP s n w s0 s1 hn);clear hn;generalize lw d n=u at*;generalize lw s n=v at*;go_enter Tryz.func56,Tryz.ntmps56;go_wp2_with fail;refine rI 9 zGV zGV ?_;intro wd hwd;have k0:wd.cell? ⟨w.heap.size,0,none⟩=some (.int .u8 d):=by rw[hwd];simp
 have k1:wd.cell? ⟨w.heap.size,1,none⟩=some (.int .u8 s):=by rw[hwd];simp
 have c0:wd.cell? ⟨w.heap.size+1,0,none⟩=some (.int .u8 0):=by rw[hwd];simp
 have c1:wd.cell? ⟨w.heap.size+1,1,none⟩=some (.int .u8 0):=by rw[hwd];simp
 have f0:wd.frozen? ⟨w.heap.size+1,0,none⟩=false:=by rw[hwd];simp
 have f1:wd.frozen? ⟨w.heap.size+1,1,none⟩=false:=by rw[hwd];simp
 have kb:Below w.heap.size w wd:=by rw[hwd];go_grown
 clear hwd;simp only[List.take_succ_cons,List.take_zero,List.drop_succ_cons,List.drop_zero];repeat still_step
 still_call (HD.out _)
 repeat still_step
 still_call (HS.out _)
 repeat still_step
 refine wpStill_nil ?_;have X:=zW (AK (T:=0) (.int .u8 u) (.int .u8 v) c0 c1);have B:=zW ((kb.setCell (p:=⟨w.heap.size+1,0,none⟩) (jT _) (.int .u8 u)).setCell (p:=⟨w.heap.size+1,1,none⟩) (jT _) (.int .u8 v));go_wp2;generalize (wd.setCell ⟨w.heap.size+1,0,none⟩ (.int .u8 u)).setCell ⟨w.heap.size+1,1,none⟩ (.int .u8 v)=wz at*;obtain⟨x0,x1⟩:=X.out;exact zP (v:=.agg #[.int .u8 u,.int .u8 v]) (by simp[results,Tryz.results56,go_sem,x0,x1]) rfl ⟨rfl,B.out⟩
theorem zZ5(d s:Int)(w:World)(d0:0≤d)(d1:d≤255)(s0:0≤s)(s1:s≤255):
  Calls Tryz.prog 41 #[.agg #[.int .u8 d,.int .u8 s]] w fun e w'=>e=.returned (.agg #[.int .u8 (lw d 1),.int .u8 (lw s 1)])∧Below w.heap.size w w':=by
 have HA:=zW fun w=>zZN d s 1 w d0 d1 s0 s1 zGX;generalize lw d 1=u at*;generalize lw s 1=v at*;go_enter Tryz.func41,Tryz.ntmps41;go_wp2_with fail;refine(HA.out _).mono ?_;rintro e w1 ⟨rfl,hb⟩;have z:=hb.size;simp only[zT]at z;have c0:w1.cell? ⟨w.heap.size+1,0,none⟩=some (.int .u8 0):=(hb.cell (p:=⟨w.heap.size+1,0,none⟩) zGN).trans zGN;have c1:w1.cell? ⟨w.heap.size+1,1,none⟩=some (.int .u8 0):=(hb.cell (p:=⟨w.heap.size+1,1,none⟩) zGN).trans zGN;have f0:w1.frozen? ⟨w.heap.size+1,0,none⟩=false:=(hb.frozen (p:=⟨w.heap.size+1,0,none⟩) zGN).trans zGN;have f1:w1.frozen? ⟨w.heap.size+1,1,none⟩=false:=(hb.frozen (p:=⟨w.heap.size+1,1,none⟩) zGN).trans zGN;have kb:Below w.heap.size w w1:=(((zB w.heap.size w).alloc (zG _) _).alloc zGN _).trans (hb.mono zGH);clear hb;have X:=zW (AK (T:=0) (.int .u8 u) (.int .u8 v) c0 c1);have B:=zW ((kb.setCell (p:=⟨w.heap.size+1,0,none⟩) (jT _) (.int .u8 u)).setCell (p:=⟨w.heap.size+1,1,none⟩) (jT _) (.int .u8 v));go_wp2;generalize (w1.setCell ⟨w.heap.size+1,0,none⟩ (.int .u8 u)).setCell ⟨w.heap.size+1,1,none⟩ (.int .u8 v)=wz at*;obtain⟨x0,x1⟩:=X.out;exact zP (v:=.agg #[.int .u8 u,.int .u8 v]) (by simp[results,Tryz.results41,go_sem,x0,x1]) rfl ⟨rfl,B.out⟩
def onT(s:Int):Bool:=!decide (s=0)
theorem zYQ(d s:Int)(w:World):
  Calls Tryz.prog 33 #[.agg #[.int .u8 d,.int .u8 s]] w fun e w'=>e=.returned (.bool (onT s))∧Below w.heap.size w w':=by
 have E:=zW (show(!decide (s=0))=onT s from rfl);go_enter Tryz.func33,Tryz.ntmps33;go_wp2;go_ret;exact⟨by rw[←E.out];rfl,by go_grown⟩

abbrev zHU(l:Int)(b0 b1 b2 b3 b4 b5 b6:Bool):Value:=.agg #[.int .i64 l,.bool b0,.bool b1,.bool b2,.bool b3,.bool b4,.bool b5,.bool b6]
def KU(b:Nat)(l:Int)(b0 b1 b2 b3 b4 b5 b6:Bool)(w:World):Prop:=b<w.heap.size∧w.cell? ⟨b,0,none⟩=some (.int .i64 l)∧w.cell? ⟨b,1,none⟩=some (.bool b0)∧w.cell? ⟨b,2,none⟩=some (.bool b1)∧w.cell? ⟨b,3,none⟩=some (.bool b2)∧w.cell? ⟨b,4,none⟩=some (.bool b3)∧w.cell? ⟨b,5,none⟩=some (.bool b4)∧w.cell? ⟨b,6,none⟩=some (.bool b5)∧w.cell? ⟨b,7,none⟩=some (.bool b6)
theorem KU.below{b:Nat}{l:Int}{b0 b1 b2 b3 b4 b5 b6:Bool}{w w':World}{n:Nat}(h:KU b l b0 b1 b2 b3 b4 b5 b6 w)(hb:Below n w w')(hn:b<n):KU b l b0 b1 b2 b3 b4 b5 b6 w':=by
 obtain⟨h0,h⟩:=h;refine⟨zD h0 hb.size,?_⟩;have e:∀j,w'.cell? ⟨b,j,none⟩=w.cell? ⟨b,j,none⟩:=fun j=>hb.cell (p:=⟨b,j,none⟩) hn;simpa only[e]using h
theorem KU.new(w:World)(t:TypeId)(l:Int)(b0 b1 b2 b3 b4 b5 b6:Bool):KU w.heap.size l b0 b1 b2 b3 b4 b5 b6 (w.alloc (.cells #[.int .i64 l,.bool b0,.bool b1,.bool b2,.bool b3,.bool b4,.bool b5,.bool b6] t)):=by
 unfold KU;simp
theorem IS(l:Int)(b0 b1 b2 b3 b4 b5 b6:Bool)(w:World)(h0:1≤l)(h1:l≤3):
  Calls Tryz.prog 35 #[zHU l b0 b1 b2 b3 b4 b5 b6] w fun e w'=>e=.returned (.bool true)∧Below w.heap.size w w':=by
 go_enter Tryz.func35,Tryz.ntmps35;go_wp2;exact zBU
theorem zZ1(l:Int)(b0 b1 b2 b3 b4 b5 b6:Bool)(w:World)(h:l<1∨3<l):
  Calls Tryz.prog 35 #[zHU l b0 b1 b2 b3 b4 b5 b6] w fun e w'=>e=.returned (.bool false)∧Below w.heap.size w w':=by
 have h:l<1∨(1≤l∧3<l):=zGX;rcases h with h|⟨h,h2⟩
 all_goals
  go_enter Tryz.func35,Tryz.ntmps35
  go_wp2
  go_returns
  exact⟨by simp;try omega,by go_grown⟩
def bi(b:Bool)(n:Int):Int:=if b then n else 0
end
section
open Go.RowKit
theorem VM{W:World}{l:Nat}{o o':Obj}(h:W.heap[l]?=some o):(W.putObj l o').putObj l o=W:=by
 unfold World.putObj;have e:(W.heap.setIfInBounds l o').setIfInBounds l o=W.heap:=by
  apply qH
  intro k
  rw[qB,qB,Array.size_setIfInBounds];by_cases hk:l=k
  ·subst hk;rw[zN rfl,h];have:=(qM.1 h).1;rw[zN this]
  ·rw[zL hk,zL hk]
 simp only[e]
theorem eT{P:Program}{g:Operand}{ps:Array Tmp}{assign body:Code}{Q:Exit→Act→World→Prop}{a:Act}{w:World}{gf:Nat}{lb:Array Value}(hg:a.eval g=.func (.func gf) #[] lb)(eg:∀args w,(callFunc gf args).run P w=.ok (.enter gf args) w)(hps:ps.size=0)
  (hassign:∀(l:Nat) (W:World) (K:Act→World→Prop),K {tmps:=a.tmps,defers:=[]} W→assign.wpIn (Fence.wide.inRound l) 4 P (Exit.then K (fun _ _ _=>False)) {tmps:=a.tmps,defers:=[]} W)
  (hbody:∀(l:Nat) (W:World),body.wpIn (Fence.wide.inRound l) 4 P (fun e _ W'=>e=.normal∧W'=W) {tmps:=a.tmps,defers:=[]} W)
  (R:World→Prop)
  (hcall:∀(l:Nat) (o:Obj) (W1:World),o.isCells=false→l=w.heap.size+1→W1=(w.alloc (.deferred (some []))).alloc o→
   (∀W,W.heap[l]?=some o→YieldAt Fence.wide 4 P l #[] W fun e W'=>e=.returned (.bool true)∧W'=W)→
   CallsIn Fence.wide 5 P gf (#[.func (.yield l) #[] #[]]++lb) W1 fun e W'=>(∃v,e=.returned v)∧W'.heap[l]?=some o∧R W')
  (hdone:∀(W:World) (o:Obj),R W→Q .normal {a with defers:={target:=.collected w.heap.size,args:=#[]}::a.defers} (W.putObj (w.heap.size+1) o)):
  (Code.rangeFunc g ps assign body).wp P Q a w:=by
 obtain rfl:ps=#[]:=Array.eq_empty_of_size_eq_zero hps;refine(wpIn_wide (n:=6)).1 (wpIn_rangeFunc ?_);intro fn hfn;obtain⟨rec,hrec⟩:∃rec:Loop,rec={state:=.ready,pending:=none,fn,tmps:=a.tmps,params:=#[],assign,body,defers:=w.heap.size}:=⟨_,rfl⟩;refine⟨w.heap.size+1,[{target:=.collected w.heap.size,args:=#[]}],(w.alloc (.deferred (some []))).alloc (.loop rec),{target:=.fn (.func gf) lb,args:=#[.func (.yield (w.heap.size+1)) #[] #[]]},(w.alloc (.deferred (some []))).alloc (.loop rec),gf,
  #[.func (.yield (w.heap.size+1)) #[] #[]]++lb,(w.alloc (.deferred (some []))).alloc (.loop rec),?_,?_,?_,?_,fun _=>by omega,?_⟩
 ·rw[hrec];exact run_enterLoop_outer _ _ _ _ _
 ·simp only[resolve,hg];simp[go_sem]
 ·intro f' hf';simp[Target.leads]at hf';subst hf';trivial
 ·simp[invoke,go_sem,eg]
 ·refine(hcall (w.heap.size+1) (.loop rec) _ rfl rfl rfl ?_).mono ?_
  ·intro W hl;have hlt:w.heap.size+1<W.heap.size:=(qM.1 hl).1;have hy:(Instr.yield (w.heap.size+1) #[]).run P W=.ok (.round (w.heap.size+1) fn a.tmps assign body) W:=by
    have h:=run_yield (P:=P) (args:=#[]) hl (by rw[hrec];rfl);rw[hrec]at h;simpa using h
   refine⟨fn,_,assign,body,hy,roundIn_of_wpIn hfn (hassign _ W _ ?_)⟩;refine⟨_,run_beginRound hl (by rw[hrec]),?_⟩;refine wpIn_mono (hbody _ _) ?_;rintro e a3 W3 ⟨rfl,rfl⟩;have hl2:(W.putObj (w.heap.size+1) (.loop {rec with state:=.busy})).heap[w.heap.size+1]?=some (.loop {rec with state:=.busy}):=World.putObj_heap_same hlt;refine⟨_,_,run_endRound (P:=P) none hl2,rfl,?_⟩;have e:({({rec with state:=.busy}:Loop)with state:=if(none:Option Code).isNone then .ready else .done,pending:=none}:Loop)=rec:=by rw[hrec];rfl
   rw[e];exact VM hl
  ·rintro e W2 ⟨⟨v,rfl⟩,hl,hR⟩;have:=run_endLoop (P:=P) hl (by rw[hrec];simp);rw[hrec]at this;exact⟨none,_,this,hdone _ _ hR⟩
end
section
open Go.RowKit Go.ChangeShapes Go.WideShapes
structure YZ(w:World)(A:Option Addr)(n c:Nat)(l:List Ev):Prop where
 ev:Evs w A n l
 cap:n≤c
 max:c≤maxLen
theorem YZ.step{w w':World}{A:Option Addr}{n c:Nat}{l:List Ev}(h:YZ w A n c l)(hb:Below w.heap.size w w'):YZ w' A n c l:=⟨h.ev.step hb,h.cap,h.max⟩
section
variable {H:Type} {enc:TypeId×Value→H} {W:World} {r:Reach} {base:Nat}
theorem zVZ{fuel:Nat}{cs:List Value}{x:DataW H×List MemPlace}(h:DataW.trod enc Tryz.prog W 0 (fun _=>true) true fuel 69 cs=some x):∃e:Ev,cs=(ec e).toList∧e.ok:=by
 have hc:Tryz.prog.cellsOf 69=2:=zGV;have hi:Tryz.prog.cellsOf 3=1:=zGV;have hb:Tryz.prog.cellsOf 4=1:=zGV;obtain⟨xs,n,_,hx,hcl,hlen,hg⟩:=DataW.trod_struct Tryz.underlying69 h;match cs,hcl.trans hc,xs,hlen with
 |[c0,c1],_,[y0,y1],_=>
  have g0:=hg 0 _ rfl
  have g1:=hg 1 _ rfl
  simp[hi,hb]at g0 g1
  obtain⟨a0,e0,_,s0⟩:=kO Tryz.underlying3 g0
  obtain⟨a1,e1,_⟩:=jQ Tryz.underlying4 g1
  simp only[List.cons.injEq,and_true]at e0 e1
  subst e0 e1
  exact⟨⟨a0,a1⟩,rfl,Num.bd_i64 s0⟩
end
structure TP(w:World)(A:Option Addr)(n c:Nat)(L:List Int):Prop where
 rd:Rd w A L
 len:L.length=n
 cap:n≤c
 max:c≤maxLen
 bd:∀x∈L,0≤x∧x≤255
theorem TP.below{w w':World}{A:Option Addr}{n c:Nat}{L:List Int}(h:TP w A n c L)(hb:Below w.heap.size w w'):TP w' A n c L:=⟨h.rd.below hb,h.len,h.cap,h.max,h.bd⟩
theorem dB:laidOutB Tryz.prog=true:=by kernel_rfl
section
variable {H:Type} {enc:TypeId×Value→H} {W:World} {r:Reach} {base:Nat}
theorem zQO{fuel:Nat}{A:Option Addr}{n c:Nat}{x:DataW H×List MemPlace}(h:DataW.trod enc Tryz.prog W 0 (fun _=>true) true fuel 22 [.slice A n c]=some x):∃L,TP W A n c L:=by
 rcases open_ints Tryz.underlying22 Tryz.underlying5 zGV h with⟨hcs,_⟩|⟨a,len,cap,zs,hcs,hb,hl,hm,hz,_,hcell,hw⟩
 ·injection hcs with hcs
  injection hcs with e1 e2 e3
  subst e1;subst e2;subst e3;exact⟨[],Rd.nil,rfl,zG _,qW _,fun x hx=>by cases hx⟩
 ·injection hcs with hcs
  injection hcs with e1 e2 e3
  subst e1;subst e2;subst e3;simp only[if_true]at hz;refine⟨zs.take n,fun hne=>?_,by rw[qX];omega,hl,hm,fun x hx=>Num.bd_u8 (hw x (List.mem_of_mem_take hx))⟩;have h0:0<n:=by
   rcases Nat.eq_zero_or_pos n with e|e
   ·subst e;exact absurd (List.take_zero) hne
   ·exact e
  have hlt:=jA W _ (hcell 0 zGX);rw[y9]at hlt;refine⟨a,rfl,hlt,fun j hj=>?_⟩;rw[qX]at hj;rw[hcell j zGX,jB,qJ,zS zGX];rfl
end
structure Fm where
 A:Option Addr
 n:Nat
 c:Nat
 ev:List Ev
 u:Nat
structure zHN(f:Fm)(w:World):Prop where
 ev:YZ w f.A f.n f.c f.ev
 u8:f.u<256
theorem zHN.step{f:Fm}{w w':World}(h:zHN f w)(hb:Below w.heap.size w w'):zHN f w':=⟨h.ev.step hb,h.u8⟩
structure Frms(w:World)(A:Option Addr)(n c:Nat)(l:List Fm):Prop where
 len:l.length=n
 cap:n≤c
 max:c≤maxLen
 at_:∀i (h:i<l.length),∃b o,A=some ⟨b,o,none⟩∧b<w.heap.size∧w.cell? ⟨b,o+i*2,none⟩=some (.slice (l[i]).A (l[i]).n (l[i]).c)∧w.cell? ⟨b,o+i*2+1,none⟩=some (.int .u8 ((l[i]).u:Int))∧zHN (l[i]) w
theorem Frms.step{w w':World}{A:Option Addr}{n c:Nat}{l:List Fm}(h:Frms w A n c l)(hb:Below w.heap.size w w'):Frms w' A n c l:=
 ⟨h.len,h.cap,h.max,fun i hi=>by
  obtain⟨b,o,e,lt,r1,r2,k⟩:=h.at_ i hi;exact⟨b,o,e,zD lt hb.size,(hb.cell (p:=⟨b,o+i*2,none⟩) lt).trans r1,(hb.cell (p:=⟨b,o+i*2+1,none⟩) lt).trans r2,k.step hb⟩⟩
section
variable {H:Type} {enc:TypeId×Value→H} {W:World} {r:Reach} {base:Nat}
theorem zQY{fuel:Nat}{cs:List Value}{x:DataW H×List MemPlace}(hf:DataW.trod enc Tryz.prog W 0 (fun _=>true) true fuel 48 cs=some x):∃A n c l,cs=[.slice A n c]∧YZ W A n c l:=by
 have ce:Tryz.prog.cellsOf 69=2:=zGV;rcases Go.Deep.open_slice Tryz.underlying48 hf with⟨hcs,_⟩|⟨a,len,cap,m,k,D,Pl,hcs,hb,hl,hm,hmm,_,hi⟩
 ·exact⟨none,0,0,[],hcs,⟨rfl,qW _,fun i hi=>absurd hi (Nat.not_lt_zero i)⟩,zG _,qW _⟩
 ·simp only[if_true]at hmm;have each:∀i,i<len→∃e:Ev,(∀j v,(ec e).toList[j]?=some v→W.cell? ((a.add (i*2)).add j)=some v)∧e.ok:=by
   intro i hin;obtain⟨cs',h1,h2⟩:=hi i zGX;rw[ce]at h1;obtain⟨_,hlen,hcell⟩:=World.cells?_some h1;obtain⟨e,he,ok⟩:=zVZ h2;refine⟨e,fun j v hv=>?_,ok⟩;have hj:j<2:=by
    have:=(jP.1 hv).1;simpa [ec]using this
   rw[hcell j hj,he];exact hv
  obtain⟨f,hf⟩:=Go.Deep.choose_lt each
  refine⟨some a,len,cap,(List.range len).map f,hcs,⟨by simp,by omega,fun i hin=>?_⟩,hl,hm⟩;simp only[qI,List.length_range]at hin;simp only[List.getElem_map,List.getElem_range];obtain⟨hc,ok⟩:=hf i hin;have h0:=(hf 0 zGX).1 0 _ rfl;rw[show(a.add (0*2)).add 0=a from rfl]at h0;have hlt:=jA W _ h0;have hsp:a.spot=none:=by
   exact zRU
  obtain⟨b,o,s⟩:=a;simp only at hsp;subst hsp;have c0:=hc 0 _ rfl;have c1:=hc 1 _ rfl;rw[Addr.add_mid,Addr.add_mid]at c0 c1;exact⟨b,o,rfl,hlt,c0,c1,ok⟩
end
end
section
open Go.RowKit Go.ChangeShapes Go.WideShapes Num
structure QE(w:World)(A:Option Addr)(n c:Nat)(L:List Int):Prop where
 row:Row (Value.int .i64) w A L
 len:L.length=n
 le:∀x∈L,-9223372036854775808≤x∧x≤9223372036854775807
 cap:n≤c
 max:c≤maxLen
theorem QE.step{w w':World}{A:Option Addr}{n c:Nat}{L:List Int}(h:QE w A n c L)(hb:Below w.heap.size w w'):QE w' A n c L:=⟨h.row.below hb,h.len,h.le,h.cap,h.max⟩
section
variable {H:Type} {enc:TypeId×Value→H} {W:World} {r:Reach} {base:Nat}
theorem BH{v:Value}{d:DataW H}{p:List MemPlace}(hv:Value.okWide Tryz.prog W r base 52 v)(h:DataW.Trod enc Tryz.prog W 0 (fun _=>true) true 52 v d p):∃A n c L,v=.slice A n c∧QE W A n c L:=by
 obtain⟨A,n,c,rfl⟩:=okWide_slice Tryz.underlying52 hv;obtain⟨fuel,hf⟩:=h;refine⟨A,n,c,?_⟩;rcases open_ints Tryz.underlying52 Tryz.underlying3 zGV hf with⟨hcs,_⟩|⟨a,len,cap,zs,hcs,hb,hl,hm,hz,_,hcell,hw⟩
 ·injection hcs with hcs
  injection hcs with e1 e2 e3
  subst e1;subst e2;subst e3;exact⟨[],rfl,Row.nil,rfl,by simp,zG _,qW _⟩
 ·injection hcs with hcs
  injection hcs with e1 e2 e3
  subst e1;subst e2;subst e3;simp only[if_true]at hz;refine⟨zs.take n,rfl,fun hne=>?_,by rw[qX];omega,fun x hx=>Num.bd_i64 (hw x (List.mem_of_mem_take hx)),by omega,by omega⟩;exact zBA
end
end
section
open Go.RowKit Go.ChangeShapes Go.WideShapes Num Cpu
structure Fv where
 A:Option Addr
 n:Nat
 c:Nat
 ev:List Ev
structure sY(w:World)(A:Option Addr)(n c:Nat)(l:List Fv):Prop where
 len:l.length=n
 cap:n≤c
 max:c≤maxLen
 at_:∀i (h:i<l.length),∃b o,A=some ⟨b,o,none⟩∧b<w.heap.size∧w.cell? ⟨b,o+i,none⟩=some (.slice (l[i]).A (l[i]).n (l[i]).c)∧YZ w (l[i]).A (l[i]).n (l[i]).c (l[i]).ev
theorem sY.step{w w':World}{A:Option Addr}{n c:Nat}{l:List Fv}(h:sY w A n c l)(hb:Below w.heap.size w w'):sY w' A n c l:=
 ⟨h.len,h.cap,h.max,fun i hi=>by
  obtain⟨b,o,e,lt,r1,k⟩:=h.at_ i hi;exact⟨b,o,e,zD lt hb.size,(hb.cell (p:=⟨b,o+i,none⟩) lt).trans r1,k.step hb⟩⟩
theorem sY.nil(w:World)(c:Nat)(hc:c≤maxLen)(A:Option Addr):sY w A 0 c []:=⟨rfl,qW _,hc,fun i hi=>absurd hi (Nat.not_lt_zero i)⟩
theorem sY.take{w:World}{A:Option Addr}{n c:Nat}{l:List Fv}(h:sY w A n c l)(k:Nat)(hk:k≤n):sY w A k c (l.take k):=
 ⟨by rw[qX,h.len];omega,zR hk h.cap,h.max,fun i hi=>by
  rw[qX,h.len]at hi;rw[jB];exact h.at_ i (by rw[h.len];omega)⟩
structure Sp where
 A:Option Addr
 n:Nat
 c:Nat
 B:Option Addr
 k:Nat
 d:Nat
 q:Pr
 cy:Int
 ca:Bool
 FA:Option Addr
 fn:Nat
 fc:Nat
 G:Option Addr
 gn:Nat
 gc:Nat
def spC(s:Sp):Array Value:=#[.slice s.A s.n s.c,.slice s.B s.k s.d,.int .i64 s.q.lv,.bool s.q.sh,.bool s.q.ki,.bool s.q.jx,.bool s.q.lr,.bool s.q.cl,.bool s.q.dw,.bool s.q.fa,.int .i64 s.cy,.bool s.ca,.slice s.FA s.fn s.fc,.slice s.G s.gn s.gc]
structure wW(s:Sp)(w:World)(R L F:List Int)(l:List Fv):Prop where
 a:TP w s.A s.n s.c R
 b:TP w s.B s.k s.d L
 f:QE w s.FA s.fn s.fc F
 g:sY w s.G s.gn s.gc l
 lv:(Lit.int .i64 s.q.lv).wf=true
 cy: -9223372036854775808≤s.cy∧s.cy≤9223372036854775807
theorem wW.step{s:Sp}{w w':World}{R L F:List Int}{l:List Fv}(h:wW s w R L F l)(hb:Below w.heap.size w w'):wW s w' R L F l:=⟨h.a.below hb,h.b.below hb,h.f.step hb,h.g.step hb,h.lv,h.cy⟩
section
variable {H:Type} {enc:TypeId×Value→H} {W:World} {r:Reach} {base:Nat}
theorem zMZ{fuel:Nat}{cs:List Value}{x:DataW H×List MemPlace}(hf:DataW.trod enc Tryz.prog W 0 (fun _=>true) true fuel 53 cs=some x):∃A n c l,cs=[.slice A n c]∧sY W A n c l:=by
 have ce:Tryz.prog.cellsOf 48=1:=zGV;rcases Go.Deep.open_slice Tryz.underlying53 hf with⟨hcs,_⟩|⟨a,len,cap,m,k,D,Pl,hcs,hb,hl,hm,hmm,_,hi⟩
 ·exact⟨none,0,0,[],hcs,rfl,zG _,qW _,fun i hi=>absurd hi (Nat.not_lt_zero i)⟩
 ·simp only[if_true]at hmm;have each:∀i,i<len→∃f:Fv,W.cell? ((a.add (i*1)).add 0)=some (.slice f.A f.n f.c)∧YZ W f.A f.n f.c f.ev:=by
   intro i hin;obtain⟨cs',h1,h2⟩:=hi i zGX;rw[ce]at h1;obtain⟨_,hlen,hcell⟩:=World.cells?_some h1;obtain⟨A,n,c,l,he,ok⟩:=zQY h2;refine⟨⟨A,n,c,l⟩,?_,ok⟩;rw[hcell 0 zGX,he];rfl
  have:Inhabited Fv:=⟨⟨none,0,0,[]⟩⟩
  obtain⟨f,hf⟩:=Go.Deep.choose_lt each;refine⟨some a,len,cap,(List.range len).map f,hcs,by simp,hl,hm,fun i hin=>?_⟩;simp only[qI,List.length_range]at hin;simp only[List.getElem_map,List.getElem_range];obtain⟨hc,ok⟩:=hf i hin;have h0:=(hf 0 zGX).1;rw[show(a.add (0*1)).add 0=a from rfl]at h0;have hlt:=jA W _ h0;have hsp:a.spot=none:=by
   exact zRU
  obtain⟨b,o,s⟩:=a;simp only at hsp;subst hsp;rw[Addr.add_mid,Addr.add_mid,Nat.add_zero,Nat.mul_one]at hc;exact⟨b,o,rfl,hlt,hc,ok⟩
theorem ZF{fuel:Nat}{cs:List Value}{x:DataW H×List MemPlace}(h:DataW.trod enc Tryz.prog W 0 (fun _=>true) true fuel 22 cs=some x):∃A n c L,cs=[.slice A n c]∧TP W A n c L:=by
 have h':=h;rcases open_ints Tryz.underlying22 Tryz.underlying5 zGV h with⟨hcs,_⟩|⟨a,len,cap,zs,hcs,_⟩
 all_goals
  subst hcs
  obtain⟨L,hL⟩:=zQO h'
  exact⟨_,_,_,L,rfl,hL⟩
theorem OI{fuel:Nat}{cs:List Value}{x:DataW H×List MemPlace}(hf:DataW.trod enc Tryz.prog W 0 (fun _=>true) true fuel 52 cs=some x):∃A n c L,cs=[.slice A n c]∧QE W A n c L:=by
 rcases open_ints Tryz.underlying52 Tryz.underlying3 zGV hf with⟨hcs,_⟩|⟨a,n,cap,zs,hcs,hb,hl,hm,hz,_,hcell,hw⟩
 ·exact⟨none,0,0,[],hcs,Row.nil,rfl,by simp,zG _,qW _⟩
 ·simp only[if_true]at hz;refine⟨some a,n,cap,zs.take n,hcs,fun hne=>?_,by rw[qX];omega,fun x hx=>Num.bd_i64 (hw x (List.mem_of_mem_take hx)),by omega,by omega⟩;exact zBA
theorem UO{fuel:Nat}{cs:List Value}{x:DataW H×List MemPlace}(hf:DataW.trod enc Tryz.prog W 0 (fun _=>true) true fuel 24 cs=some x):∃q:Pr,cs=(prc q).toList∧(Lit.int .i64 q.lv).wf=true:=by
 have hc:Tryz.prog.cellsOf 24=8:=zGV;have hc0:Tryz.prog.cellsOf 4=1:=zGV;have hc1:Tryz.prog.cellsOf 3=1:=zGV;obtain⟨xs,n,_,hx,hcl,hlen,hg⟩:=DataW.trod_struct Tryz.underlying24 hf;match cs,hcl.trans hc,xs,hlen with
 |[c0,c1,c2,c3,c4,c5,c6,c7],_,[y0,y1,y2,y3,y4,y5,y6,y7],_=>
  have g0:=hg 0 _ rfl
  have g1:=hg 1 _ rfl
  have g2:=hg 2 _ rfl
  have g3:=hg 3 _ rfl
  have g4:=hg 4 _ rfl
  have g5:=hg 5 _ rfl
  have g6:=hg 6 _ rfl
  have g7:=hg 7 _ rfl
  simp[hc0,hc1]at g0 g1 g2 g3 g4 g5 g6 g7
  obtain⟨l,e0,_,s_l⟩:=kO Tryz.underlying3 g0
  obtain⟨b0,e1,_⟩:=jQ Tryz.underlying4 g1
  obtain⟨b1,e2,_⟩:=jQ Tryz.underlying4 g2
  obtain⟨b2,e3,_⟩:=jQ Tryz.underlying4 g3
  obtain⟨b3,e4,_⟩:=jQ Tryz.underlying4 g4
  obtain⟨b4,e5,_⟩:=jQ Tryz.underlying4 g5
  obtain⟨b5,e6,_⟩:=jQ Tryz.underlying4 g6
  obtain⟨b6,e7,_⟩:=jQ Tryz.underlying4 g7
  simp at e0 e1 e2 e3 e4 e5 e6 e7
  subst e0 e1 e2 e3 e4 e5 e6 e7
  exact⟨⟨l,b0,b1,b2,b3,b4,b5,b6⟩,rfl,s_l⟩
theorem oX(cs:List Value)(a n b:Nat)(hb:a+n=b){l:List Value}(h:(cs.drop a).take n=l):cs.drop a=l++cs.drop b:=by
 rw[←h,←hb,←List.drop_drop];exact(List.take_append_drop _ _).symm
theorem UL{fuel:Nat}{cs:List Value}{x:DataW H×List MemPlace}(h:DataW.trod enc Tryz.prog W 0 (fun _=>true) true fuel 55 cs=some x):∃(s:Sp) (R L F:List Int) (l:List Fv),cs=(spC s).toList∧wW s W R L F l:=by
 have hc:Tryz.prog.cellsOf 55=14:=zGV;have hy:Tryz.prog.cellsOf 22=1:=zGV;have hp:Tryz.prog.cellsOf 24=8:=zGV;have hn:Tryz.prog.cellsOf 3=1:=zGV;have hb:Tryz.prog.cellsOf 4=1:=zGV;have hs:Tryz.prog.cellsOf 52=1:=zGV;have hk:Tryz.prog.cellsOf 53=1:=zGV;obtain⟨xs,n,_,hx,hcl,hlen,hg⟩:=DataW.trod_struct Tryz.underlying55 h;rw[hc]at hcl;match xs,hlen with
 |[y0,y1,y2,y3,y4,y5,y6],_=>
  have g0:DataW.trod enc Tryz.prog W 0 (fun _=>true) true n 22 ((cs.drop 0).take (Tryz.prog.cellsOf 22))=some y0:=hg 0 _ rfl
  rw[hy]at g0
  have g1:DataW.trod enc Tryz.prog W 0 (fun _=>true) true n 22 ((cs.drop 1).take (Tryz.prog.cellsOf 22))=some y1:=hg 1 _ rfl
  rw[hy]at g1
  have g2:DataW.trod enc Tryz.prog W 0 (fun _=>true) true n 24 ((cs.drop 2).take (Tryz.prog.cellsOf 24))=some y2:=hg 2 _ rfl
  rw[hp]at g2
  have g3:DataW.trod enc Tryz.prog W 0 (fun _=>true) true n 3 ((cs.drop 10).take (Tryz.prog.cellsOf 3))=some y3:=hg 3 _ rfl
  rw[hn]at g3
  have g4:DataW.trod enc Tryz.prog W 0 (fun _=>true) true n 4 ((cs.drop 11).take (Tryz.prog.cellsOf 4))=some y4:=hg 4 _ rfl
  rw[hb]at g4
  have g5:DataW.trod enc Tryz.prog W 0 (fun _=>true) true n 52 ((cs.drop 12).take (Tryz.prog.cellsOf 52))=some y5:=hg 5 _ rfl
  rw[hs]at g5
  have g6:DataW.trod enc Tryz.prog W 0 (fun _=>true) true n 53 ((cs.drop 13).take (Tryz.prog.cellsOf 53))=some y6:=hg 6 _ rfl
  rw[hk]at g6
  obtain⟨A,an,ac,R,e0,w0⟩:=ZF g0
  obtain⟨B,bn,bc,L,e1,w1⟩:=ZF g1
  obtain⟨q,e2,w2⟩:=UO g2
  obtain⟨cy,e3,_,w3⟩:=kO Tryz.underlying3 g3
  obtain⟨ca,e4,_⟩:=jQ Tryz.underlying4 g4
  obtain⟨FA,fn,fc,F,e5,w5⟩:=OI g5
  obtain⟨G,gn,gc,l,e6,w6⟩:=zMZ g6
  refine⟨⟨A,an,ac,B,bn,bc,q,cy,ca,FA,fn,fc,G,gn,gc⟩,R,L,F,l,?_,⟨w0,w1,w5,w6,w2,Num.bd_i64 w3⟩⟩
  have E:cs=cs.drop 0:=rfl
  rw[E,oX cs 0 1 1 rfl e0,oX cs 1 1 2 rfl e1,oX cs 2 8 10 rfl e2,oX cs 10 1 11 rfl e3,oX cs 11 1 12 rfl e4,oX cs 12 1 13 rfl e5,oX cs 13 1 14 rfl e6,List.drop_eq_nil_of_le zGX]
  rfl
theorem bT{v:Value}{d:DataW H}{p:List MemPlace}(hv:Value.okWide Tryz.prog W r base 55 v)(h:DataW.Trod enc Tryz.prog W 0 (fun _=>true) true 55 v d p):∃(s:Sp) (R L F:List Int) (l:List Fv),v=.agg (spC s)∧wW s W R L F l:=by
 obtain⟨cs,rfl,hsz⟩:=okWide_struct Tryz.underlying55 hv;obtain⟨fuel,hf⟩:=h;obtain⟨s,R,L,F,l,he,hu⟩:=UL hf;exact⟨s,R,L,F,l,by rw[←Array.toArray_toList (xs:=spC s),←he];rfl,hu⟩
end
end
end Go.Proofs.YtbpniahcjbagmaaGreatDoor
